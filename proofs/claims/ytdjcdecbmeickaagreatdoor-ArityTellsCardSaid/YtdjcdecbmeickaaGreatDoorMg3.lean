import Derived.RegionDies
import Derived.Deep.RegionHeldLaw
import Derived.Lib.QuietBelow
import Derived.Test.YtdjcdecbmeickaaGreatDoorMg1
import Derived.Test.YtdjcdecbmeickaaGreatDoorMg2
namespace Go.Proofs.YtdjcdecbmeickaaGreatDoor
set_option maxHeartbeats 64000000
set_option maxRecDepth 100000
open Go.RowKit Go.Lib
def bodyO (n d : Nat) : Par Ex := fun last rest =>
  if shapeL rest = sLet then letO (exprO n d) last rest
  else if shapeL rest = sCase then caseO (exprO n d) last rest
  else if shapeL rest = sLam then lamO (exprO n d) last rest
  else rowsO (exprO n d) last rest
def BoxW (W : World) (p : Nat) (cs : List Value) : Prop := (∀ j v, cs[j]? = some v → W.cell? ⟨p, j, none⟩ = some v) ∧ ∀ j, W.frozen? ⟨p, j, none⟩ = false
theorem BoxW.alloc (w : World) (cs : Array Value) (t : TypeId) : BoxW (w.alloc (.cells cs t)) w.heap.size cs.toList :=
  ⟨fun j v h => by simp [go_sem]; simpa using h, fun j => by simp⟩
theorem BoxW.lt {W : World} {p : Nat} {c : Value} {cs : List Value} (h : BoxW W p (c :: cs)) : p < W.heap.size := Bl (h.1 0 c rfl)
theorem BoxW.grown {W W' : World} {p b : Nat} {c : Value} {cs : List Value} (h : BoxW W p (c :: cs)) (hg : W.grownBy W' (some b)) (hp : p ≠ b) : BoxW W' p (c :: cs) :=
  ⟨fun j v hj => hg.cell (h.1 j v hj) (by simpa using hp), fun j => (World.frozen?_of_block (w := W) (hg.block _ h.lt (by simpa using hp))).trans (h.2 j)⟩
theorem boxw_grown {W W' : World} {p b : Nat} {c : Value} {cs : List Value} (h : BoxW W p (c :: cs)) (hg : W.grownBy W' (some b)) (hp : p ≠ b) : BoxW W' p (c :: cs) := h.grown hg hp
theorem BoxW.below {W W' : World} {p : Nat} {c : Value} {cs : List Value} (h : BoxW W p (c :: cs)) (hb : Below W.heap.size W W') : BoxW W' p (c :: cs) :=
  h.grown (b := p + 1) (grown_of hb) (by omega)
theorem BoxW.set {W : World} {p : Nat} {cs : List Value} (h : BoxW W p cs) (i : Nat) (hi : i < cs.length) (v : Value) : BoxW (W.setCell ⟨p, i, none⟩ v) p (cs.set i v) := by
  refine ⟨fun j u hj => ?_, fun j => by simp [h.2 j]⟩
  by_cases e : i = j
  · subst e
    rw [List.getElem?_set_self hi] at hj
    cases hj
    exact at_sam v (h.1 i cs[i] (List.getElem?_eq_getElem hi))
  · rw [List.getElem?_set_ne e] at hj
    exact (at_oth _ _ _ _ _ e).trans (h.1 j u hj)
theorem BoxW.far {W : World} {p q i : Nat} {cs : List Value} (h : BoxW W p cs) (hq : q ≠ p) (v : Value) : BoxW (W.setCell ⟨q, i, none⟩ v) p cs :=
  ⟨fun j u hj => (at_far _ _ _ _ _ _ hq).trans (h.1 j u hj), fun j => by simp [h.2 j]⟩
def Kp (lo hi : Nat) (W W' : World) : Prop := ∀ g, lo ≤ g → g < hi → W'.heap[g]? = W.heap[g]?
theorem Kp.refl (lo hi : Nat) (W : World) : Kp lo hi W W := fun _ _ _ => rfl
theorem Kp.trans {lo hi : Nat} {W W' W'' : World} (h : Kp lo hi W W') (h2 : Kp lo hi W' W'') : Kp lo hi W W'' := fun g h3 h4 => (h2 g h3 h4).trans (h g h3 h4)
theorem Kp.grown {lo hi : Nat} {W W' : World} {b : Nat} (hg : W.grownBy W' (some b)) (hb : b < lo) (hi' : hi ≤ W.heap.size) : Kp lo hi W W' := fun g h1 h2 => hg.block g (by omega) (by simp; omega)
theorem Kp.below {lo hi : Nat} {W W' : World} (hb : Below W.heap.size W W') (hi' : hi ≤ W.heap.size) : Kp lo hi W W' := fun g _ h2 => hb.block g (by omega)
theorem Kp.set {lo hi : Nat} (W : World) (p i : Nat) (v : Value) (h : p < lo ∨ hi ≤ p) : Kp lo hi W (W.setCell ⟨p, i, none⟩ v) := fun g h1 h2 => Below.heap_setCell _ _ _ _ (by simp only; omega)
theorem ExAt.kp {W W' : World} {lo lo' : Nat} {x : Ex} {cs : List Value} (h : ExAt W (fun g => lo ≤ g) x cs) (hk : Kp lo W.heap.size W W') (hl : lo' ≤ lo) : ExAt W' (fun g => lo' ≤ g) x cs := h.move fun g hg lt => ⟨Nt hl hg, hk g hg lt⟩
theorem ExsAt.kp {W W' : World} {lo lo' : Nat} {x : List Ex} {cs : List Value} (h : ExsAt W (fun g => lo ≤ g) x cs) (hk : Kp lo W.heap.size W W') (hl : lo' ≤ lo) : ExsAt W' (fun g => lo' ≤ g) x cs := h.move fun g hg lt => ⟨Nt hl hg, hk g hg lt⟩
theorem BndsAt.kp {W W' : World} {lo lo' : Nat} {x : List Bnd} {cs : List Value} (h : BndsAt W (fun g => lo ≤ g) x cs) (hk : Kp lo W.heap.size W W') (hl : lo' ≤ lo) : BndsAt W' (fun g => lo' ≤ g) x cs := h.move fun g hg lt => ⟨Nt hl hg, hk g hg lt⟩
theorem AltsAt.kp {W W' : World} {lo lo' : Nat} {x : List Alt} {cs : List Value} (h : AltsAt W (fun g => lo ≤ g) x cs) (hk : Kp lo W.heap.size W W') (hl : lo' ≤ lo) : AltsAt W' (fun g => lo' ≤ g) x cs := h.move fun g hg lt => ⟨Nt hl hg, hk g hg lt⟩
theorem RowAt.kp {W W' : World} {lo lo' : Nat} {e : TypeId} {size : Nat} {v : Value} {n : Nat} {xs : List Value} (h : RowAt W (fun g => lo ≤ g) e size v n xs) (hk : Kp lo W.heap.size W W') (hl : lo' ≤ lo) : RowAt W' (fun g => lo' ≤ g) e size v n xs := h.move fun g hg lt => ⟨Nt hl hg, hk g hg lt⟩
theorem RowAt.own {W : World} {lo : Nat} {e : TypeId} {size : Nat} {v : Value} {n : Nat} {xs : List Value} (h : W.ownsRow lo e size v n xs) : RowAt W (fun g => lo ≤ g) e size v n xs := RowAt.of h fun _ h => h
theorem ExAt.withKids {W : World} {K : Nat → Prop} {a : Ex} {k nm f u vp vk vb va v : Value} (h : ExAt W K a [k, nm, f, u, vp, vk, vb, va]) {xs : List Ex} {cs : List Value} (hk : RowAt W K 57 8 v xs.length cs) (hx : ExsAt W K xs cs) : ExAt W K (a.withKids xs) [k, nm, f, u, vp, v, vb, va] := by
  cases h with
  | mk k n f x ps ks bs al vp vk vb va xk xb xa hp hk0 hb ha tk tb ta => exact .mk k n f x ps xs bs al vp v vb va cs xb xa hp hk hb ha hx tb ta
theorem ExAt.kids {W : World} {K : Nat → Prop} {v : Value} {xs : List Ex} {cs : List Value} (k : Int) (n : Nm) (hk : RowAt W K 57 8 v xs.length cs) (hx : ExsAt W K xs cs) : ExAt W K (.mk k n false 0 [] xs [] []) [.int .i64 k, .string (tx n), .bool false, .int .u64 0, .slice none 0 0, v, .slice none 0 0, .slice none 0 0] :=
  .mk k n false 0 [] xs [] [] _ v _ _ cs [] [] (RowAt.nil _ _ _ _) hk (RowAt.nil _ _ _ _) (RowAt.nil _ _ _ _) hx .nil .nil
theorem own_built {W : World} {g base : Nat} {e : TypeId} {size n : Nat} {cs : Array Value} (hg : W.heap[g]? = some (.cells cs e)) (hb : base ≤ g) (hs : cs.size = n * size) (hn : n ≤ maxLen) : W.ownsRow base e size (.slice (some ⟨g, 0, none⟩) n n) n cs.toList :=
  ⟨by rw [Array.length_toList]; exact hs, Or.inr ⟨g, n, cs, rfl, hb, hg, Nat.le_refl _, hn, hs, by rw [← hs, ← Array.length_toList]; exact List.take_length⟩⟩
theorem own_news {W : World} {base : Nat} {e : TypeId} {size n : Nat} {a : Addr} {c : Nat} {xs : List Value} (h : W.ownsRow base e size (.slice (some a) n c) n xs) : ∀ j u, xs[j]? = some u → W.cell? (a.add j) = some u := by
  obtain ⟨h0, ⟨h, -⟩ | ⟨g, cap, cur, h, h2, h3, h4, h5, h6, h7⟩⟩ := h
  · cases h
  · cases h
    intro j u hj
    have hadd : (⟨g, 0, none⟩ : Addr).add j = ⟨g, j, none⟩ := by unfold Addr.add; split <;> simp_all
    rw [hadd, cell_of_row W g j cur e (0, 0) h3]
    rw [← h7] at hj
    have := List.getElem?_take (l := cur.toList) (i := n * size) (j := j)
    rw [hj] at this
    split at this
    · simpa using this.symm
    · cases this
theorem ExAt.one {W : World} {K : Nat → Prop} {x : Ex} {cs : List Value} (h : ExAt W K x cs) : ∀ u ∈ cs, u.oneCell' = true := by
  cases h with
  | mk k n f x ps ks bs al vp vk vb va xk xb xa hp hk hb ha tk tb ta =>
    obtain ⟨_, _, _, rfl⟩ := hp.slice
    obtain ⟨_, _, _, rfl⟩ := hk.slice
    obtain ⟨_, _, _, rfl⟩ := hb.slice
    obtain ⟨_, _, _, rfl⟩ := ha.slice
    intro u hu
    simp at hu
    rcases hu with rfl | rfl | rfl | rfl | rfl | rfl | rfl | rfl <;> rfl
theorem ExsAt.one {W : World} {K : Nat → Prop} : ∀ {es : List Ex} {xs : List Value}, ExsAt W K es xs → ∀ u ∈ xs, u.oneCell' = true
  | [], _, .nil => fun u hu => by cases hu
  | _ :: _, _, .cons _ _ cs xs h t => fun u hu => by
    rcases List.mem_append.1 hu with hu | hu
    · exact h.one u hu
    · exact t.one u hu
theorem ExsAt.len {W : World} {K : Nat → Prop} : ∀ {es : List Ex} {xs : List Value}, ExsAt W K es xs → xs.length = es.length * 8
  | [], _, .nil => rfl
  | _ :: es, _, .cons _ _ cs xs h t => by
    have h8 : cs.length = 8 := by cases h; rfl
    have := t.len
    simp only [List.length_append, List.length_cons, h8, this]
    omega
abbrev Fo := Option (Int × Nm)
def twiceL : List Nm → List Nm → Option Nm
  | _, [] => none
  | seen, x :: r => if x ∈ seen then some x else twiceL (seen ++ [x]) r
def twF (l : List Nm) : Fo := (twiceL [] l).map fun n => (5, n)
def hasF (l : List Nm) (n : Nm) : Fo := if n ∈ l then none else some (4, n)
def bNames (bs : List (Nm × List Nm × Ex)) : List Nm := bs.map (·.1)
mutual
def scE (cs sc : List Nm) : Ex → Fo
  | .mk k n _ _ ps ks bs al =>
    if k = 1 then hasF sc n
    else if k = 2 then (hasF cs n).or (scEs cs sc ks)
    else if k = 6 then (twF (bNames bs)).or ((scBs cs (sc ++ bNames bs) bs).or (scEs cs (sc ++ bNames bs) ks))
    else if k = 7 then (scEs cs sc ks).or (scAs cs sc al)
    else if k = 8 then (twF ps).or (scEs cs (sc ++ ps) ks)
    else scEs cs sc ks
def scEs (cs sc : List Nm) : List Ex → Fo
  | [] => none
  | e :: r => (scE cs sc e).or (scEs cs sc r)
def scBs (cs sc : List Nm) : List (Nm × List Nm × Ex) → Fo
  | [] => none
  | (_, ps, e) :: r => ((twF ps).or (scE cs (sc ++ ps) e)).or (scBs cs sc r)
def scAs (cs sc : List Nm) : List (Int × Nm × Bool × Int × List Nm × Ex) → Fo
  | [] => none
  | (k, n, _, _, ns, e) :: r => (if k = 0 then (hasF cs n).or ((twF ns).or (scE cs (sc ++ ns) e)) else if k = 2 then scE cs (sc ++ [n]) e else scE cs sc e).or (scAs cs sc r)
end
mutual
def sdE (cs sc : List Nm) : Ex → Fo
  | .mk k n _ _ ps ks bs al =>
    if k = 1 then (hasF sc n).or ((sdEs cs sc ks).or (sdAs cs sc al))
    else if k = 2 then (hasF cs n).or ((sdEs cs sc ks).or (sdAs cs sc al))
    else if k = 6 then (twF (bNames bs)).or ((sdBs cs (sc ++ bNames bs) bs).or ((sdEs cs (sc ++ bNames bs) ks).or (sdAs cs (sc ++ bNames bs) al)))
    else if k = 8 then (twF ps).or ((sdEs cs (sc ++ ps) ks).or (sdAs cs (sc ++ ps) al))
    else (sdEs cs sc ks).or (sdAs cs sc al)
def sdEs (cs sc : List Nm) : List Ex → Fo
  | [] => none
  | e :: r => (sdE cs sc e).or (sdEs cs sc r)
def sdBs (cs sc : List Nm) : List (Nm × List Nm × Ex) → Fo
  | [] => none
  | (_, ps, e) :: r => ((twF ps).or (sdE cs (sc ++ ps) e)).or (sdBs cs sc r)
def sdAs (cs sc : List Nm) : List (Int × Nm × Bool × Int × List Nm × Ex) → Fo
  | [] => none
  | (k, n, _, _, ns, e) :: r => (if k = 0 then (hasF cs n).or ((twF ns).or (sdE cs (sc ++ ns) e)) else if k = 2 then sdE cs (sc ++ [n]) e else sdE cs sc e).or (sdAs cs sc r)
end
def four : List (Nm × Int) := [([70, 97, 108, 115, 101], 0), ([84, 114, 117, 101], 0), ([78, 111, 116, 104, 105, 110, 103], 0), ([74, 117, 115, 116], 1)]
def mainL : Nm := [109, 97, 105, 110]
def conNames (m : Md) : List Nm := (four ++ m.1).map (·.1)
def scM (m : Md) : Fo := (twF (conNames m)).or ((twF (bNames m.2)).or ((if mainL ∈ bNames m.2 then none else some (10, mainL)).or (scBs (conNames m) (bNames m.2) m.2)))
def sdM (m : Md) : Fo := (twF (conNames m)).or ((twF (bNames m.2)).or ((if mainL ∈ bNames m.2 then none else some (10, mainL)).or (sdBs (conNames m) (bNames m.2) m.2)))
def SetEq (a b : List Nm) : Prop := ∀ x, x ∈ a ↔ x ∈ b
theorem namesV_get : ∀ {l : List Nm} {j : Nat} (hj : j < l.length), (namesV l)[j]? = some (.string (tx l[j]))
  | l, j, hj => by simp [namesV, hj]
theorem below_dN {n : Nat} {w w' : World} (h : Below n w w') (k : Nat) : Below n w (w'.drewN k) := ⟨h.os, h.tape, h.output, h.size, h.block⟩
theorem tx_ne {a b : Nm} (h : a ≠ b) : ((tx a).toList == (tx b).toList) = false := beq_eq_false_iff_ne.2 (fun e => h (by
  rw [ByteArray.toList_eq, ByteArray.toList_eq] at e
  simpa [tx] using e))
theorem in_any (l : List Nm) (n : Nm) (a : Option Addr) (c : Nat) (K : Nat → Prop) (w : World) (h : RowAt w K 9 1 (.slice a l.length c) l.length (namesV l)) :
    Calls Tryz.prog 36 #[.slice a l.length c, .string (tx n)] w fun e w' => e = .returned (.bool (decide (n ∈ l))) ∧ Below w.heap.size w w' := by
  have HO := Hd h
  have hmx := h.cap
  unfold maxLen at hmx
  clear h
  go_enter Tryz.func36, Tryz.ntmps36
  go_wp2_with fail
  go_loopw [5] (fun s3 wr => ∃ j : Nat, j ≤ l.length ∧ s3 = .int .i64 j ∧ Below w.heap.size w wr ∧ n ∉ l.take j) (fun s3 _ => l.length - (RowKit.intOf s3).toNat)
  case atStart => exact ⟨0, Nat.zero_le _, rfl, Below.refl _ _, by simp⟩
  case round =>
    obtain ⟨j, hj, rfl, hbr, hno⟩ := hrel
    have HBR := Hd (Ai hbr hno)
    clear hbr hno
    by_cases gj : j < l.length
    · have gj' : (j : Int) < (l.length : Int) := by omega
      obtain ⟨g1, o1, ea1, k1, m1', -, ht1⟩ := HO.out.at (by omega)
      subst ea1
      have p0 := later' HBR.out.1 (ht1 j _ (namesV_get gj))
      have HT := Hd (show l.take (j + 1) = l.take j ++ [l[j]] from List.take_succ_eq_append_getElem gj)
      have HM := Hd (List.getElem_mem gj)
      generalize l[j] = tk at *
      have ej : IntKind.i64.wrap ((j : Int) + 1) = (j : Int) + 1 := by rw [IntKind.wrap_i64]; omega
      have b0 : (0 : Int) ≤ (j : Int) := by omega
      clear ht1
      by_cases ge : tk = n
      · subst ge
        have he : ((tx tk).toList == (tx tk).toList) = true := by simp
        have hd : decide (tk ∈ l) = true := decide_eq_true HM.out
        go_wp2_with fail
        go_ret
        exact ⟨by rw [hd]; rfl, HBR.out.1⟩
      · have he := tx_ne ge
        go_wp2_with fail
        refine ⟨⟨j + 1, by omega, by go_num, HBR.out.1, fun hm => ?_⟩, by simp [RowKit.intOf]; omega⟩
        rw [HT.out] at hm
        rcases List.mem_append.1 hm with hm | hm
        · exact HBR.out.2 hm
        · exact ge (List.mem_singleton.1 hm).symm
    · obtain rfl : j = l.length := by omega
      have hd : decide (n ∈ l) = false := decide_eq_false (by have h := HBR.out.2; rwa [List.take_length] at h)
      go_wp2_with fail
      go_ret
      exact ⟨by rw [hd]; rfl, HBR.out.1⟩
theorem BoxW.q8 {W : World} {p : Nat} {a0 a1 a2 a3 a4 a5 a6 a7 : Value} (h : BoxW W p [a0, a1, a2, a3, a4, a5, a6, a7]) : W.cell? ⟨p, 0, none⟩ = some a0 ∧ W.cell? ⟨p, 1, none⟩ = some a1 ∧ W.cell? ⟨p, 2, none⟩ = some a2 ∧ W.cell? ⟨p, 3, none⟩ = some a3 ∧ W.cell? ⟨p, 4, none⟩ = some a4 ∧ W.cell? ⟨p, 5, none⟩ = some a5 ∧ W.cell? ⟨p, 6, none⟩ = some a6 ∧ W.cell? ⟨p, 7, none⟩ = some a7 := ⟨h.1 0 _ rfl, h.1 1 _ rfl, h.1 2 _ rfl, h.1 3 _ rfl, h.1 4 _ rfl, h.1 5 _ rfl, h.1 6 _ rfl, h.1 7 _ rfl⟩
theorem BoxW.z8 {W : World} {p : Nat} {cs : List Value} (h : BoxW W p cs) : W.frozen? ⟨p, 0, none⟩ = false ∧ W.frozen? ⟨p, 1, none⟩ = false ∧ W.frozen? ⟨p, 2, none⟩ = false ∧ W.frozen? ⟨p, 3, none⟩ = false ∧ W.frozen? ⟨p, 4, none⟩ = false ∧ W.frozen? ⟨p, 5, none⟩ = false ∧ W.frozen? ⟨p, 6, none⟩ = false ∧ W.frozen? ⟨p, 7, none⟩ = false := ⟨h.2 0, h.2 1, h.2 2, h.2 3, h.2 4, h.2 5, h.2 6, h.2 7⟩
theorem BoxW.q10 {W : World} {p : Nat} {a0 a1 a2 a3 a4 a5 a6 a7 a8 a9 : Value} (h : BoxW W p [a0, a1, a2, a3, a4, a5, a6, a7, a8, a9]) : W.cell? ⟨p, 0, none⟩ = some a0 ∧ W.cell? ⟨p, 1, none⟩ = some a1 ∧ W.cell? ⟨p, 2, none⟩ = some a2 ∧ W.cell? ⟨p, 3, none⟩ = some a3 ∧ W.cell? ⟨p, 4, none⟩ = some a4 ∧ W.cell? ⟨p, 5, none⟩ = some a5 ∧ W.cell? ⟨p, 6, none⟩ = some a6 ∧ W.cell? ⟨p, 7, none⟩ = some a7 ∧ W.cell? ⟨p, 8, none⟩ = some a8 ∧ W.cell? ⟨p, 9, none⟩ = some a9 := ⟨h.1 0 _ rfl, h.1 1 _ rfl, h.1 2 _ rfl, h.1 3 _ rfl, h.1 4 _ rfl, h.1 5 _ rfl, h.1 6 _ rfl, h.1 7 _ rfl, h.1 8 _ rfl, h.1 9 _ rfl⟩
theorem BoxW.z10 {W : World} {p : Nat} {cs : List Value} (h : BoxW W p cs) : W.frozen? ⟨p, 0, none⟩ = false ∧ W.frozen? ⟨p, 1, none⟩ = false ∧ W.frozen? ⟨p, 2, none⟩ = false ∧ W.frozen? ⟨p, 3, none⟩ = false ∧ W.frozen? ⟨p, 4, none⟩ = false ∧ W.frozen? ⟨p, 5, none⟩ = false ∧ W.frozen? ⟨p, 6, none⟩ = false ∧ W.frozen? ⟨p, 7, none⟩ = false ∧ W.frozen? ⟨p, 8, none⟩ = false ∧ W.frozen? ⟨p, 9, none⟩ = false := ⟨h.2 0, h.2 1, h.2 2, h.2 3, h.2 4, h.2 5, h.2 6, h.2 7, h.2 8, h.2 9⟩
theorem BoxW.q13 {W : World} {p : Nat} {a0 a1 a2 a3 a4 a5 a6 a7 a8 a9 a10 a11 a12 : Value} (h : BoxW W p [a0, a1, a2, a3, a4, a5, a6, a7, a8, a9, a10, a11, a12]) : W.cell? ⟨p, 0, none⟩ = some a0 ∧ W.cell? ⟨p, 1, none⟩ = some a1 ∧ W.cell? ⟨p, 2, none⟩ = some a2 ∧ W.cell? ⟨p, 3, none⟩ = some a3 ∧ W.cell? ⟨p, 4, none⟩ = some a4 ∧ W.cell? ⟨p, 5, none⟩ = some a5 ∧ W.cell? ⟨p, 6, none⟩ = some a6 ∧ W.cell? ⟨p, 7, none⟩ = some a7 ∧ W.cell? ⟨p, 8, none⟩ = some a8 ∧ W.cell? ⟨p, 9, none⟩ = some a9 ∧ W.cell? ⟨p, 10, none⟩ = some a10 ∧ W.cell? ⟨p, 11, none⟩ = some a11 ∧ W.cell? ⟨p, 12, none⟩ = some a12 := ⟨h.1 0 _ rfl, h.1 1 _ rfl, h.1 2 _ rfl, h.1 3 _ rfl, h.1 4 _ rfl, h.1 5 _ rfl, h.1 6 _ rfl, h.1 7 _ rfl, h.1 8 _ rfl, h.1 9 _ rfl, h.1 10 _ rfl, h.1 11 _ rfl, h.1 12 _ rfl⟩
theorem BoxW.z13 {W : World} {p : Nat} {cs : List Value} (h : BoxW W p cs) : W.frozen? ⟨p, 0, none⟩ = false ∧ W.frozen? ⟨p, 1, none⟩ = false ∧ W.frozen? ⟨p, 2, none⟩ = false ∧ W.frozen? ⟨p, 3, none⟩ = false ∧ W.frozen? ⟨p, 4, none⟩ = false ∧ W.frozen? ⟨p, 5, none⟩ = false ∧ W.frozen? ⟨p, 6, none⟩ = false ∧ W.frozen? ⟨p, 7, none⟩ = false ∧ W.frozen? ⟨p, 8, none⟩ = false ∧ W.frozen? ⟨p, 9, none⟩ = false ∧ W.frozen? ⟨p, 10, none⟩ = false ∧ W.frozen? ⟨p, 11, none⟩ = false ∧ W.frozen? ⟨p, 12, none⟩ = false := ⟨h.2 0, h.2 1, h.2 2, h.2 3, h.2 4, h.2 5, h.2 6, h.2 7, h.2 8, h.2 9, h.2 10, h.2 11, h.2 12⟩
theorem Rdr.o2 {W : World} {b me ma : Nat} {last : Int} {rest : List Tok} {d p i0 i1 : Nat} {v0 v1 : Value} (h : Rdr W b me ma last rest d) (hp : b < p) : Rdr ((W.setCell ⟨p, i0, none⟩ v0).setCell ⟨p, i1, none⟩ v1) b me ma last rest d := (h.over hp _).over hp _
theorem gn2 {w W : World} {b p i0 i1 : Nat} {v0 v1 : Value} (h : w.grownBy W (some b)) (hp : w.heap.size ≤ p) : w.grownBy ((W.setCell ⟨p, i0, none⟩ v0).setCell ⟨p, i1, none⟩ v1) (some b) := grown_new (grown_new h hp _) hp _
theorem Kp.s2 {lo hi : Nat} {W : World} {p i0 i1 : Nat} {v0 v1 : Value} (h : p < lo ∨ hi ≤ p) : Kp lo hi W ((W.setCell ⟨p, i0, none⟩ v0).setCell ⟨p, i1, none⟩ v1) := (Kp.set _ _ _ _ h).trans (Kp.set _ _ _ _ h)
theorem Rdr.o8 {W : World} {b me ma : Nat} {last : Int} {rest : List Tok} {d p i0 i1 i2 i3 i4 i5 i6 i7 : Nat} {v0 v1 v2 v3 v4 v5 v6 v7 : Value} (h : Rdr W b me ma last rest d) (hp : b < p) : Rdr ((((((((W.setCell ⟨p, i0, none⟩ v0).setCell ⟨p, i1, none⟩ v1).setCell ⟨p, i2, none⟩ v2).setCell ⟨p, i3, none⟩ v3).setCell ⟨p, i4, none⟩ v4).setCell ⟨p, i5, none⟩ v5).setCell ⟨p, i6, none⟩ v6).setCell ⟨p, i7, none⟩ v7) b me ma last rest d := (((((((h.over hp _).over hp _).over hp _).over hp _).over hp _).over hp _).over hp _).over hp _
theorem gn8 {w W : World} {b p i0 i1 i2 i3 i4 i5 i6 i7 : Nat} {v0 v1 v2 v3 v4 v5 v6 v7 : Value} (h : w.grownBy W (some b)) (hp : w.heap.size ≤ p) : w.grownBy ((((((((W.setCell ⟨p, i0, none⟩ v0).setCell ⟨p, i1, none⟩ v1).setCell ⟨p, i2, none⟩ v2).setCell ⟨p, i3, none⟩ v3).setCell ⟨p, i4, none⟩ v4).setCell ⟨p, i5, none⟩ v5).setCell ⟨p, i6, none⟩ v6).setCell ⟨p, i7, none⟩ v7) (some b) := grown_new (grown_new (grown_new (grown_new (grown_new (grown_new (grown_new (grown_new h hp _) hp _) hp _) hp _) hp _) hp _) hp _) hp _
theorem Kp.s8 {lo hi : Nat} {W : World} {p i0 i1 i2 i3 i4 i5 i6 i7 : Nat} {v0 v1 v2 v3 v4 v5 v6 v7 : Value} (h : p < lo ∨ hi ≤ p) : Kp lo hi W ((((((((W.setCell ⟨p, i0, none⟩ v0).setCell ⟨p, i1, none⟩ v1).setCell ⟨p, i2, none⟩ v2).setCell ⟨p, i3, none⟩ v3).setCell ⟨p, i4, none⟩ v4).setCell ⟨p, i5, none⟩ v5).setCell ⟨p, i6, none⟩ v6).setCell ⟨p, i7, none⟩ v7) := (((((((Kp.set _ _ _ _ h).trans (Kp.set _ _ _ _ h)).trans (Kp.set _ _ _ _ h)).trans (Kp.set _ _ _ _ h)).trans (Kp.set _ _ _ _ h)).trans (Kp.set _ _ _ _ h)).trans (Kp.set _ _ _ _ h)).trans (Kp.set _ _ _ _ h)
theorem Kp.s10 {lo hi : Nat} {W : World} {p i0 i1 i2 i3 i4 i5 i6 i7 i8 i9 : Nat} {v0 v1 v2 v3 v4 v5 v6 v7 v8 v9 : Value} (h : p < lo ∨ hi ≤ p) : Kp lo hi W ((((((((((W.setCell ⟨p, i0, none⟩ v0).setCell ⟨p, i1, none⟩ v1).setCell ⟨p, i2, none⟩ v2).setCell ⟨p, i3, none⟩ v3).setCell ⟨p, i4, none⟩ v4).setCell ⟨p, i5, none⟩ v5).setCell ⟨p, i6, none⟩ v6).setCell ⟨p, i7, none⟩ v7).setCell ⟨p, i8, none⟩ v8).setCell ⟨p, i9, none⟩ v9) := (((((((((Kp.set _ _ _ _ h).trans (Kp.set _ _ _ _ h)).trans (Kp.set _ _ _ _ h)).trans (Kp.set _ _ _ _ h)).trans (Kp.set _ _ _ _ h)).trans (Kp.set _ _ _ _ h)).trans (Kp.set _ _ _ _ h)).trans (Kp.set _ _ _ _ h)).trans (Kp.set _ _ _ _ h)).trans (Kp.set _ _ _ _ h)
theorem Kp.s13 {lo hi : Nat} {W : World} {p i0 i1 i2 i3 i4 i5 i6 i7 i8 i9 i10 i11 i12 : Nat} {v0 v1 v2 v3 v4 v5 v6 v7 v8 v9 v10 v11 v12 : Value} (h : p < lo ∨ hi ≤ p) : Kp lo hi W (((((((((((((W.setCell ⟨p, i0, none⟩ v0).setCell ⟨p, i1, none⟩ v1).setCell ⟨p, i2, none⟩ v2).setCell ⟨p, i3, none⟩ v3).setCell ⟨p, i4, none⟩ v4).setCell ⟨p, i5, none⟩ v5).setCell ⟨p, i6, none⟩ v6).setCell ⟨p, i7, none⟩ v7).setCell ⟨p, i8, none⟩ v8).setCell ⟨p, i9, none⟩ v9).setCell ⟨p, i10, none⟩ v10).setCell ⟨p, i11, none⟩ v11).setCell ⟨p, i12, none⟩ v12) := ((((((((((((Kp.set _ _ _ _ h).trans (Kp.set _ _ _ _ h)).trans (Kp.set _ _ _ _ h)).trans (Kp.set _ _ _ _ h)).trans (Kp.set _ _ _ _ h)).trans (Kp.set _ _ _ _ h)).trans (Kp.set _ _ _ _ h)).trans (Kp.set _ _ _ _ h)).trans (Kp.set _ _ _ _ h)).trans (Kp.set _ _ _ _ h)).trans (Kp.set _ _ _ _ h)).trans (Kp.set _ _ _ _ h)).trans (Kp.set _ _ _ _ h)
theorem BoxW.b8 {W : World} {p : Nat} {a0 a1 a2 a3 a4 a5 a6 a7 v0 v1 v2 v3 v4 v5 v6 v7 : Value} (h : BoxW W p [a0, a1, a2, a3, a4, a5, a6, a7]) : BoxW ((((((((W.setCell ⟨p, 0, none⟩ v0).setCell ⟨p, 1, none⟩ v1).setCell ⟨p, 2, none⟩ v2).setCell ⟨p, 3, none⟩ v3).setCell ⟨p, 4, none⟩ v4).setCell ⟨p, 5, none⟩ v5).setCell ⟨p, 6, none⟩ v6).setCell ⟨p, 7, none⟩ v7) p [v0, v1, v2, v3, v4, v5, v6, v7] := (((((((h.set 0 (show 0 < 8 by decide) v0).set 1 (show 1 < 8 by decide) v1).set 2 (show 2 < 8 by decide) v2).set 3 (show 3 < 8 by decide) v3).set 4 (show 4 < 8 by decide) v4).set 5 (show 5 < 8 by decide) v5).set 6 (show 6 < 8 by decide) v6).set 7 (show 7 < 8 by decide) v7
theorem BoxW.b8v {W : World} {p : Nat} {a0 a1 a2 a3 a4 a5 a6 a7 : Value} (h : BoxW W p [a0, a1, a2, a3, a4, a5, a6, a7]) (v0 v1 v2 v3 v4 v5 v6 v7 : Value) : BoxW ((((((((W.setCell ⟨p, 0, none⟩ v0).setCell ⟨p, 1, none⟩ v1).setCell ⟨p, 2, none⟩ v2).setCell ⟨p, 3, none⟩ v3).setCell ⟨p, 4, none⟩ v4).setCell ⟨p, 5, none⟩ v5).setCell ⟨p, 6, none⟩ v6).setCell ⟨p, 7, none⟩ v7) p [v0, v1, v2, v3, v4, v5, v6, v7] := (((((((h.set 0 (show 0 < 8 by decide) v0).set 1 (show 1 < 8 by decide) v1).set 2 (show 2 < 8 by decide) v2).set 3 (show 3 < 8 by decide) v3).set 4 (show 4 < 8 by decide) v4).set 5 (show 5 < 8 by decide) v5).set 6 (show 6 < 8 by decide) v6).set 7 (show 7 < 8 by decide) v7
theorem BoxW.b10v {W : World} {p : Nat} {a0 a1 a2 a3 a4 a5 a6 a7 a8 a9 : Value} (h : BoxW W p [a0, a1, a2, a3, a4, a5, a6, a7, a8, a9]) (v0 v1 v2 v3 v4 v5 v6 v7 v8 v9 : Value) : BoxW ((((((((((W.setCell ⟨p, 0, none⟩ v0).setCell ⟨p, 1, none⟩ v1).setCell ⟨p, 2, none⟩ v2).setCell ⟨p, 3, none⟩ v3).setCell ⟨p, 4, none⟩ v4).setCell ⟨p, 5, none⟩ v5).setCell ⟨p, 6, none⟩ v6).setCell ⟨p, 7, none⟩ v7).setCell ⟨p, 8, none⟩ v8).setCell ⟨p, 9, none⟩ v9) p [v0, v1, v2, v3, v4, v5, v6, v7, v8, v9] := (((((((((h.set 0 (show 0 < 10 by decide) v0).set 1 (show 1 < 10 by decide) v1).set 2 (show 2 < 10 by decide) v2).set 3 (show 3 < 10 by decide) v3).set 4 (show 4 < 10 by decide) v4).set 5 (show 5 < 10 by decide) v5).set 6 (show 6 < 10 by decide) v6).set 7 (show 7 < 10 by decide) v7).set 8 (show 8 < 10 by decide) v8).set 9 (show 9 < 10 by decide) v9
theorem BoxW.b13v {W : World} {p : Nat} {a0 a1 a2 a3 a4 a5 a6 a7 a8 a9 a10 a11 a12 : Value} (h : BoxW W p [a0, a1, a2, a3, a4, a5, a6, a7, a8, a9, a10, a11, a12]) (v0 v1 v2 v3 v4 v5 v6 v7 v8 v9 v10 v11 v12 : Value) : BoxW (((((((((((((W.setCell ⟨p, 0, none⟩ v0).setCell ⟨p, 1, none⟩ v1).setCell ⟨p, 2, none⟩ v2).setCell ⟨p, 3, none⟩ v3).setCell ⟨p, 4, none⟩ v4).setCell ⟨p, 5, none⟩ v5).setCell ⟨p, 6, none⟩ v6).setCell ⟨p, 7, none⟩ v7).setCell ⟨p, 8, none⟩ v8).setCell ⟨p, 9, none⟩ v9).setCell ⟨p, 10, none⟩ v10).setCell ⟨p, 11, none⟩ v11).setCell ⟨p, 12, none⟩ v12) p [v0, v1, v2, v3, v4, v5, v6, v7, v8, v9, v10, v11, v12] := ((((((((((((h.set 0 (show 0 < 13 by decide) v0).set 1 (show 1 < 13 by decide) v1).set 2 (show 2 < 13 by decide) v2).set 3 (show 3 < 13 by decide) v3).set 4 (show 4 < 13 by decide) v4).set 5 (show 5 < 13 by decide) v5).set 6 (show 6 < 13 by decide) v6).set 7 (show 7 < 13 by decide) v7).set 8 (show 8 < 13 by decide) v8).set 9 (show 9 < 13 by decide) v9).set 10 (show 10 < 13 by decide) v10).set 11 (show 11 < 13 by decide) v11).set 12 (show 12 < 13 by decide) v12
theorem BoxW.b13_5_8 {W : World} {p : Nat} {a0 a1 a2 a3 a4 a5 a6 a7 a8 a9 a10 a11 a12 v5 v6 v7 v8 v9 v10 v11 v12 : Value} (h : BoxW W p [a0, a1, a2, a3, a4, a5, a6, a7, a8, a9, a10, a11, a12]) : BoxW ((((((((W.setCell ⟨p, 5, none⟩ v5).setCell ⟨p, 6, none⟩ v6).setCell ⟨p, 7, none⟩ v7).setCell ⟨p, 8, none⟩ v8).setCell ⟨p, 9, none⟩ v9).setCell ⟨p, 10, none⟩ v10).setCell ⟨p, 11, none⟩ v11).setCell ⟨p, 12, none⟩ v12) p [a0, a1, a2, a3, a4, v5, v6, v7, v8, v9, v10, v11, v12] := (((((((h.set 5 (show 5 < 13 by decide) v5).set 6 (show 6 < 13 by decide) v6).set 7 (show 7 < 13 by decide) v7).set 8 (show 8 < 13 by decide) v8).set 9 (show 9 < 13 by decide) v9).set 10 (show 10 < 13 by decide) v10).set 11 (show 11 < 13 by decide) v11).set 12 (show 12 < 13 by decide) v12
theorem BoxW.b13_2_2 {W : World} {p : Nat} {a0 a1 a2 a3 a4 a5 a6 a7 a8 a9 a10 a11 a12 v2 v3 : Value} (h : BoxW W p [a0, a1, a2, a3, a4, a5, a6, a7, a8, a9, a10, a11, a12]) : BoxW ((W.setCell ⟨p, 2, none⟩ v2).setCell ⟨p, 3, none⟩ v3) p [a0, a1, v2, v3, a4, a5, a6, a7, a8, a9, a10, a11, a12] := (h.set 2 (show 2 < 13 by decide) v2).set 3 (show 3 < 13 by decide) v3
theorem twiceL_snoc (x : Nm) : ∀ (l seen : List Nm), twiceL seen (l ++ [x]) = (twiceL seen l).or (if x ∈ seen ++ l then some x else none)
  | [], seen => by
    show (if x ∈ seen then some x else twiceL (seen ++ [x]) []) = _
    simp [twiceL]
  | y :: r, seen => by
    show (if y ∈ seen then some y else twiceL (seen ++ [y]) (r ++ [x])) = (if y ∈ seen then some y else twiceL (seen ++ [y]) r).or _
    by_cases g : y ∈ seen
    · rw [if_pos g, if_pos g]; rfl
    · rw [if_neg g, if_neg g, twiceL_snoc x r (seen ++ [y])]
      simp
theorem twF_snoc (l : List Nm) (x : Nm) : twF (l ++ [x]) = (twF l).or (if x ∈ l then some (5, x) else none) := by
  unfold twF
  rw [twiceL_snoc]
  cases twiceL [] l with
  | some y => rfl
  | none =>
    by_cases g : x ∈ l
    · simp [g]
    · simp [g]
theorem or_nil_l (a : Fo) : a.or none = a := by cases a <;> rfl
def stN (st : Fo) : Int × Nm := st.getD (0, [])
structure SAt (w : World) (b : Nat) (st : Fo) (vc : Value) : Prop where
  box : BoxW w b [.int .i64 (stN st).1, .string (tx (stN st).2), vc]
  ok : ∀ x, st = some x → x.1 ≠ 0
theorem SAt.later {w w' : World} {b : Nat} {st : Fo} {vc : Value} (h : SAt w b st vc) (hb : Below w.heap.size w w') : SAt w' b st vc := ⟨h.box.below hb, h.ok⟩
theorem sfault_any (b : Nat) (st : Fo) (vc : Value) (er : Int) (he : er ≠ 0) (n : Nm) (w : World) (h : SAt w b st vc) : Calls Tryz.prog 37 #[.pointer (some ⟨b, 0, none⟩), .int .i64 er, .string (tx n)] w fun e w' => e = .returned (.tuple #[]) ∧ SAt w' b (st.or (some (er, n))) vc ∧ w.grownBy w' (some b) := by
  have q0 : w.cell? ⟨b, 0, none⟩ = some _ := h.box.1 0 _ rfl
  have q1 : w.cell? ⟨b, 1, none⟩ = some _ := h.box.1 1 _ rfl
  have z0 := h.box.2 0
  have z1 := h.box.2 1
  have HB := Hd h.box
  have HO := Hd h.ok
  cases st with
  | none =>
    have e0 : (stN none).1 = 0 := rfl
    have HF := Hd (show SAt ((w.setCell ⟨b, 0, none⟩ (.int .i64 er)).setCell ⟨b, 1, none⟩ (.string (tx n))) b (some (er, n)) vc from ⟨(h.box.set 0 (show 0 < 3 by decide) (.int .i64 er)).set 1 (show 1 < 3 by decide) (.string (tx n)), fun x hx => by cases hx; exact he⟩)
    show Calls _ _ _ _ fun e w' => e = .returned (.tuple #[]) ∧ SAt w' b (some (er, n)) vc ∧ _
    rw [e0] at q0
    clear h HO
    go_enter Tryz.func37, Tryz.ntmps37
    go_wp2_with fail
    go_end0
    exact ⟨rfl, HF.out, Gt (set_grown ..) (set_grown ..)⟩
  | some x =>
    have hx := HO.out x rfl
    have f0 : ((stN (some x)).1 == 0) = false := by simpa [stN] using hx
    have HF := Hd h
    show Calls _ _ _ _ fun e w' => e = .returned (.tuple #[]) ∧ SAt w' b (some x) vc ∧ _
    clear h HO hx
    generalize (stN (some x)).1 = ee at *
    go_enter Tryz.func37, Tryz.ntmps37
    go_wp2_with fail
    go_end0
    exact ⟨rfl, HF.out, grown_of Br⟩
theorem row_take {W : World} {K : Nat → Prop} {e : TypeId} {a : Option Addr} {c : Nat} {l : List Nm} (h : RowAt W K e 1 (.slice a l.length c) l.length (namesV l)) {i : Nat} (hi : i ≤ l.length) : RowAt W K e 1 (.slice a (l.take i).length c) (l.take i).length (namesV (l.take i)) := by
  have hz : (l.take i).length = i := by rw [List.length_take]; omega
  obtain ⟨h0, ⟨h1, h2⟩ | ⟨g, o, c', cur, h1, h2, h3, h4, h5, h6⟩⟩ := h
  · obtain ⟨rfl, q, rfl⟩ := Value.slice.inj h1
    refine ⟨by simp [namesV], Or.inl ⟨by rw [hz]; congr 1; omega, by rw [hz]; omega⟩⟩
  · obtain ⟨rfl, -, rfl⟩ := Value.slice.inj h1
    refine ⟨by simp [namesV], Or.inr ⟨g, o, c, cur, rfl, h2, h3, by omega, h5, fun j u hj => h6 j u ?_⟩⟩
    have hl : j < (l.take i).length := by
      rcases Nat.lt_or_ge j (l.take i).length with q | q
      · exact q
      · rw [List.getElem?_eq_none (by simpa [namesV] using q)] at hj; cases hj
    have hl2 : j < l.length := by omega
    rw [namesV_get hl] at hj
    rw [namesV_get hl2, ← hj, List.getElem_take]
theorem scon_any (b : Nat) (st : Fo) (cl : List Nm) (ac : Option Addr) (cc : Nat) (K : Nat → Prop) (n : Nm) (w : World) (h : SAt w b st (.slice ac cl.length cc)) (hr : RowAt w K 9 1 (.slice ac cl.length cc) cl.length (namesV cl)) : Calls Tryz.prog 86 #[.pointer (some ⟨b, 0, none⟩), .string (tx n)] w fun e w' => e = .returned (.tuple #[]) ∧ SAt w' b (st.or (hasF cl n)) (.slice ac cl.length cc) ∧ w.grownBy w' (some b) := by
  have q2 : w.cell? ⟨b, 2, none⟩ = some _ := h.box.1 2 _ rfl
  have HS := Hd h
  have HI := Hd (in_any cl n ac cc K w hr)
  clear h
  go_enter Tryz.func86, Tryz.ntmps86
  go_wp2_with fail
  refine HI.out.mono ?_
  rintro e w1 ⟨rfl, hb⟩
  have HS1 := Hd (HS.out.later hb)
  have HG := Hd (grown_of (b := b) hb)
  clear hb HI
  by_cases g : n ∈ cl
  · have hd : decide (n ∈ cl) = true := decide_eq_true g
    rw [hd]
    have hf : hasF cl n = none := if_pos g
    go_wp2_with fail
    go_end0
    rw [hf, or_nil_l]
    exact ⟨rfl, HS1.out, HG.out⟩
  · have hd : decide (n ∈ cl) = false := decide_eq_false g
    rw [hd]
    have hf : hasF cl n = some (4, n) := if_neg g
    have HF := Hd (sfault_any b st (.slice ac cl.length cc) 4 (by decide) n w1 HS1.out)
    go_wp2_with fail
    refine HF.out.mono ?_
    rintro e w2 ⟨rfl, hs, hg⟩
    have HE := Hd (Ai hs (Gt HG.out hg))
    clear hs hg
    go_wp2_with fail
    go_end0
    rw [hf]
    exact ⟨rfl, HE.out.1, HE.out.2⟩
theorem RowAt.past {w w' : World} {K : Nat → Prop} {e : TypeId} {size n b : Nat} {v : Value} {xs : List Value} (h : RowAt w K e size v n xs) (hg : w.grownBy w' (some b)) (hK : ∀ g, K g → g ≠ b) : RowAt w' K e size v n xs :=
  h.move fun g hk lt => ⟨hk, hg.block g lt (fun e => hK g hk (Oi e))⟩
theorem or_assoc_f (a b c : Fo) : (a.or b).or c = a.or (b.or c) := by cases a <;> rfl
theorem stwice_any (b : Nat) (st : Fo) (vc : Value) (l : List Nm) (a : Option Addr) (c : Nat) (K : Nat → Prop) (hK : ∀ g, K g → g ≠ b) (w : World) (h : SAt w b st vc) (hr : RowAt w K 9 1 (.slice a l.length c) l.length (namesV l)) : Calls Tryz.prog 34 #[.pointer (some ⟨b, 0, none⟩), .slice a l.length c] w fun e w' => e = .returned (.tuple #[]) ∧ SAt w' b (st.or (twF l)) vc ∧ w.grownBy w' (some b) := by
  have HS := Hd h
  have HO := Hd hr
  have hmx := hr.cap
  unfold maxLen at hmx
  have hcap : l.length ≤ c := by
    obtain ⟨-, ⟨h1, h2⟩ | ⟨g, o, c', cur, h1, -, -, h4, -⟩⟩ := hr
    · obtain ⟨-, q, -⟩ := Value.slice.inj h1; omega
    · obtain ⟨-, -, rfl⟩ := Value.slice.inj h1; exact h4
  clear h hr
  go_enter Tryz.func34, Tryz.ntmps34
  go_wp2_with fail
  go_loopw [4] (fun s2 wr => ∃ j : Nat, j ≤ l.length ∧ s2 = .int .i64 j ∧ SAt wr b (st.or (twF (l.take j))) vc ∧ w.grownBy wr (some b)) (fun s2 _ => l.length - (RowKit.intOf s2).toNat)
  case atStart => exact ⟨0, Nat.zero_le _, rfl, by rw [List.take_zero, show twF [] = none from rfl, or_nil_l]; exact HS.out, grown_of Br⟩
  case round =>
    obtain ⟨j, hj, rfl, hs, hg⟩ := hrel
    have HR := Hd (Ai hs hg)
    have HO2 := Hd (HO.out.past hg hK)
    clear hs hg
    by_cases gj : j < l.length
    · have gj' : (j : Int) < (l.length : Int) := by omega
      have hjc : (j : Int) ≤ (c : Int) := by omega
      obtain ⟨g1, o1, ea1, k1, m1', -, ht1⟩ := HO2.out.at (by omega)
      subst ea1
      have p0 := ht1 j _ (namesV_get gj)
      have HT := Hd (show l.take (j + 1) = l.take j ++ [l[j]] from List.take_succ_eq_append_getElem gj)
      have hz : (l.take j).length = j := by rw [List.length_take]; omega
      have hI : ∀ W, Below wr.heap.size wr W → Calls Tryz.prog 36 #[.slice (some ⟨g1, o1, none⟩) j c, .string (tx l[j])] W fun e w' => e = .returned (.bool (decide (l[j] ∈ l.take j))) ∧ Below W.heap.size W w' := fun W hb => by
        have h := in_any (l.take j) l[j] (some ⟨g1, o1, none⟩) c K W (row_take (HO2.out.move fun g hk lt => ⟨hk, hb.block g lt⟩) hj)
        rwa [hz] at h
      have HI := Hd hI
      clear hI ht1 hz
      generalize l[j] = tk at *
      have ej : IntKind.i64.wrap ((j : Int) + 1) = (j : Int) + 1 := by rw [IntKind.wrap_i64]; omega
      have b0 : (0 : Int) ≤ (j : Int) := by omega
      go_wp2_with fail
      go_region_with (go_at_call 36; refine (HI.out _ (by first | exact Br | exact Br.drew | exact below_dN Br _)).mono ?_; rintro e w1 ⟨rfl, hb⟩; have HB1 := Hd (show Below wr.heap.size wr w1 from ⟨hb.os, hb.tape, hb.output, hb.size, hb.block⟩); clear hb)
      have p1 := later' HB1.out p0
      have HT2 := Hd (show twF (l.take (j + 1)) = (twF (l.take j)).or (if tk ∈ l.take j then some (5, tk) else none) by rw [HT.out, twF_snoc])
      have HS1 := Hd (HR.out.1.later HB1.out)
      have HG1 := Hd (Gt HR.out.2 (grown_of (b := b) HB1.out))
      by_cases g : tk ∈ l.take j
      · rw [decide_eq_true g]
        have HF := Hd (sfault_any b (st.or (twF (l.take j))) vc 5 (by decide) tk w1 HS1.out)
        go_wp2_with fail
        refine HF.out.mono ?_
        rintro e w2 ⟨rfl, hs, hg⟩
        have HE := Hd (Ai hs (Gt HG1.out hg))
        clear hs hg
        go_wp2_with fail
        refine ⟨⟨j + 1, by omega, by go_num, ?_, HE.out.2⟩, by simp [RowKit.intOf]; omega⟩
        rw [HT2.out, if_pos g]
        have h := HE.out.1
        rwa [or_assoc_f] at h
      · rw [decide_eq_false g]
        go_wp2_with fail
        refine ⟨⟨j + 1, by omega, by go_num, ?_, HG1.out⟩, by simp [RowKit.intOf]; omega⟩
        rw [HT2.out, if_neg g, or_nil_l]
        exact HS1.out
    · obtain rfl : j = l.length := by omega
      go_wp2_with fail
      go_end0
      have h := HR.out.1
      rw [List.take_length] at h
      exact ⟨rfl, h, HR.out.2⟩
theorem Kp.past {lo hi : Nat} {W W' : World} {q : Nat} (hg : W.grownBy W' (some q)) (hq : hi ≤ q) (hi' : hi ≤ W.heap.size) : Kp lo hi W W' := fun g _ h2 => hg.block g (by omega) (by simp; omega)
def BndV (lo : Nat) (x : Bnd) (e : Ending) (w : World) : Prop :=
  ∃ vp k n f u vq vk vb va, e = .returned (.agg #[.string (tx x.1), vp, .int .i64 k, .string n, .bool f, .int .u64 u, vq, vk, vb, va]) ∧ RowAt w (fun g => lo ≤ g) 9 1 vp x.2.1.length (namesV x.2.1) ∧ ExAt w (fun g => lo ≤ g) x.2.2 [.int .i64 k, .string n, .bool f, .int .u64 u, vq, vk, vb, va]
def AltV (lo : Nat) (x : Alt) (e : Ending) (w : World) : Prop :=
  ∃ vp k n f u vq vk vb va, e = .returned (.agg #[.int .i64 x.1, .string (tx x.2.1), .bool x.2.2.1, .int .u64 x.2.2.2.1, vp, .int .i64 k, .string n, .bool f, .int .u64 u, vq, vk, vb, va]) ∧ RowAt w (fun g => lo ≤ g) 9 1 vp x.2.2.2.2.1.length (namesV x.2.2.2.2.1) ∧ ExAt w (fun g => lo ≤ g) x.2.2.2.2.2 [.int .i64 k, .string n, .bool f, .int .u64 u, vq, vk, vb, va]
def BndsV (lo : Nat) (xs : List Bnd) (e : Ending) (w : World) : Prop := ∃ v cs, e = .returned v ∧ w.ownsRow lo 59 10 v xs.length cs ∧ BndsAt w (fun g => lo ≤ g) xs cs
def AltsV (lo : Nat) (xs : List Alt) (e : Ending) (w : World) : Prop := ∃ v cs, e = .returned v ∧ w.ownsRow lo 135 13 v xs.length cs ∧ AltsAt w (fun g => lo ≤ g) xs cs
theorem Tryz.info_bind : (Tryz.prog.info? 59).map (fun i => (i.zero, i.size, i.bytes)) = some (some (.agg #[.string ⟨#[]⟩, .slice none 0 0, .int .i64 0, .string ⟨#[]⟩, .bool false, .int .u64 0, .slice none 0 0, .slice none 0 0, .slice none 0 0, .slice none 0 0]), 10, 176) := by kernel_rfl
theorem Tryz.info_alt : (Tryz.prog.info? 135).map (fun i => (i.zero, i.size, i.bytes)) = some (some (.agg #[.int .i64 0, .string ⟨#[]⟩, .bool false, .int .u64 0, .slice none 0 0, .int .i64 0, .string ⟨#[]⟩, .bool false, .int .u64 0, .slice none 0 0, .slice none 0 0, .slice none 0 0, .slice none 0 0]), 13, 200) := by kernel_rfl
theorem BndsAt.snoc {W : World} {K : Nat → Prop} : ∀ {bs : List Bnd} {xs : List Value} {x : Bnd} {vp : Value} {cs : List Value}, BndsAt W K bs xs → RowAt W K 9 1 vp x.2.1.length (namesV x.2.1) → ExAt W K x.2.2 cs → BndsAt W K (bs ++ [x]) (xs ++ (.string (tx x.1) :: vp :: cs))
  | [], _, (n, ps, e), vp, cs, .nil, hp, h => by simpa using BndsAt.cons n ps e [] vp cs [] hp h .nil
  | _ :: bs, _, x, vp, cs, .cons n ps e _ v0 c0 x0 hp0 h0 t0, hp, h => by simpa [List.append_assoc] using BndsAt.cons n ps e _ v0 c0 _ hp0 h0 (t0.snoc hp h)
theorem AltsAt.snoc {W : World} {K : Nat → Prop} : ∀ {bs : List Alt} {xs : List Value} {x : Alt} {vp : Value} {cs : List Value}, AltsAt W K bs xs → RowAt W K 9 1 vp x.2.2.2.2.1.length (namesV x.2.2.2.2.1) → ExAt W K x.2.2.2.2.2 cs → AltsAt W K (bs ++ [x]) (xs ++ (.int .i64 x.1 :: .string (tx x.2.1) :: .bool x.2.2.1 :: .int .u64 x.2.2.2.1 :: vp :: cs))
  | [], _, (k, n, f, u, ps, e), vp, cs, .nil, hp, h => by simpa using AltsAt.cons k n f u ps e [] vp cs [] hp h .nil
  | _ :: bs, _, x, vp, cs, .cons k n f u ps e _ v0 c0 x0 hp0 h0 t0, hp, h => by simpa [List.append_assoc] using AltsAt.cons k n f u ps e _ v0 c0 _ hp0 h0 (t0.snoc hp h)
def arityO : Par Int := fun l r => if shapeL r = sNum then (takeO l r).bind fun u l2 r2 => if u.1.f = true ∨ 24 < u.1.x then refuseO 1 l r else .ok u.1.x l2 r2 else refuseO 3 l r
def declV : List (Nm × Int) → List Value
  | [] => []
  | (n, x) :: ds => .string (tx n) :: .int .i64 x :: declV ds
theorem declV_snoc (ds : List (Nm × Int)) (x : Nm × Int) : declV (ds ++ [x]) = declV ds ++ [.string (tx x.1), .int .i64 x.2] := by
  induction ds with
  | nil => rfl
  | cons y ds ih => simp [declV, ih]
theorem declV_len (ds : List (Nm × Int)) : (declV ds).length = ds.length * 2 := by
  induction ds with
  | nil => rfl
  | cons y ds ih => simp [declV, ih]; omega
theorem declV_app (ds es : List (Nm × Int)) : declV (ds ++ es) = declV ds ++ declV es := by
  induction ds with
  | nil => rfl
  | cons y ds ih => simp [declV, ih]
theorem declV_one (ds : List (Nm × Int)) : ∀ u ∈ declV ds, u.oneCell' = true := by
  induction ds with
  | nil => intro u hu; cases hu
  | cons y ds ih =>
    intro u hu
    simp only [declV, List.mem_cons] at hu
    rcases hu with rfl | rfl | hu
    · rfl
    · rfl
    · exact ih u hu
def DeclsV (lo : Nat) (ds : List (Nm × Int)) (e : Ending) (w : World) : Prop := ∃ v, e = .returned v ∧ w.ownsRow lo 92 2 v ds.length (declV ds)
theorem Tryz.info_decl : (Tryz.prog.info? 92).map (fun i => (i.zero, i.size, i.bytes)) = some (some (.agg #[.string ⟨#[]⟩, .int .i64 0]), 2, 24) := by kernel_rfl
def Onto (w : World) (base : Nat) (e : TypeId) (size : Nat) (v : Value) (n : Nat) (xs : List Value) (ao : Option Addr) (cap : Nat) (w' : World) : Prop :=
  w'.ownsRow base e size (.slice ao n cap) n xs ∧ w.grownBy w' v.ownBlock ∧ ((Value.slice ao n cap).ownBlock = v.ownBlock ∨ (Value.slice ao n cap).ownBlock = some w.heap.size)
theorem run_nil_decl (ty : TypeId) (v : Value) (base n : Nat) (xs : List Value) (c : Nat) (w : World) (h : w.ownsRow base 92 2 v n xs) :
    (Builtin.append_ #[24, 24] ty #[v, .slice none 0 c]).run Tryz.prog w = .ok v w := by
  have hu : Tryz.prog.underlying 24 = some (.slice 92) := Tryz.underlying24
  rcases h.2 with ⟨rfl, rfl⟩ | ⟨g, cap, cur, rfl, _, _, hcap, _⟩
  · simp [Builtin.append_, run_underlying hu, Tryz.sizeOf92, Builtin.firstCells, Builtin.lenOf, go_sem]
  · simp [Builtin.append_, run_underlying hu, Tryz.sizeOf92, Builtin.firstCells, Builtin.lenOf, go_sem, hcap]
theorem run_onto_decl (ty : TypeId) (w : World) (base n : Nat) (v : Value) (xs : List Value) (hown : w.ownsRow base 92 2 v n xs) (b2 m : Nat) (ys : List Value) (x : Value) (hx : w.ownsRow b2 92 2 x m ys) (h1 : ∀ u ∈ ys, u.oneCell' = true) (hb : n + m ≤ 100000) (hbase : base ≤ w.heap.size) :
    ∃ ao cap w', (Builtin.append_ #[24, 24] ty #[v, x]).run Tryz.prog w = .ok (.slice ao (n + m) cap) w' ∧ Onto w base 92 2 v (n + m) (xs ++ ys) ao cap w' := by
  obtain ⟨i0, hi, hz0, hz1, hz2⟩ := info_parts Tryz.info_decl
  obtain ⟨hl, ⟨rfl, rfl⟩ | ⟨g, cap, cur, rfl, h2, h3, h4, h5, h6, h7⟩⟩ := id hx
  · have hy : ys = [] := List.length_eq_zero_iff.1 (by simpa using hl)
    subst hy
    obtain ⟨ao, cap, rfl, hlow⟩ := own_shape hown
    exact ⟨ao, cap, w, run_nil_decl ty _ base n xs 0 w hown, by simpa using hown, ⟨rfl, rfl, rfl, Nat.le_refl _, fun _ _ _ => rfl⟩, Or.inl rfl⟩
  · obtain ⟨v', w', hr, q2, q3, _, q5⟩ := run_append_own_at (P := Tryz.prog) w base 24 ty 92 i0 (.agg #[.string ⟨#[]⟩, .int .i64 0]) 2 24 Tryz.underlying24 hi hz0 hz1 hz2 rfl (by decide) v n xs hown ⟨g, 0, none⟩ m cap ys hl (own_news hx) h1 (by unfold maxLen; omega) (by omega) hbase
    obtain ⟨ao, c2, rfl, hlow⟩ := own_shape q2
    exact ⟨ao, c2, w', hr, q2, q3, q5⟩
theorem wp_onto_decl {o : Oper} {a : Act} {K : Act → World → Prop} {Q : Exit → Act → World → Prop} (s x : Operand) (ho : o.op = .call { callee := .builtin .append, args := #[s, x], argTypes := #[24, 24] })
    (w : World) (base n : Nat) (v : Value) (xs : List Value) (hs : a.eval s = v) (hown : w.ownsRow base 92 2 v n xs) (b2 m : Nat) (ys : List Value) (xv : Value) (hx : a.eval x = xv) (hsrc : w.ownsRow b2 92 2 xv m ys) (h1 : ∀ u ∈ ys, u.oneCell' = true) (hb : n + m ≤ 100000) (hbase : base ≤ w.heap.size)
    (h : ∀ ao cap w', Onto w base 92 2 v (n + m) (xs ++ ys) ao cap w' → K (a.put o.dst (.slice ao (n + m) cap)) w') : o.wp Tryz.prog a w K Q := by
  obtain ⟨ao, cap, w', hr, h2⟩ := run_onto_decl o.type w base n v xs hown b2 m ys xv hsrc h1 hb hbase
  unfold Oper.wp execOp
  simp only [ho, resolve, invoke, builtin, Sem.run_bind, Sem.run_pure, Result.andThen_ok, List.map_toArray, List.map_cons, List.map_nil, hs, hx, hr]
  exact h ao cap w' h2
theorem step_onto_decl {ops : Array Oper} {o : Oper} {a : Act} {K : Act → World → Prop} {Q : Exit → Act → World → Prop} {E : Prop} (hgd : o.guard = none) (s x : Operand) (ho : o.op = .call { callee := .builtin .append, args := #[s, x], argTypes := #[24, 24] })
    (w : World) (base n : Nat) (v : Value) (xs : List Value) (hs : a.eval s = v) (hown : w.ownsRow base 92 2 v n xs) (b2 m : Nat) (ys : List Value) (xv : Value) (hx : a.eval x = xv) (hsrc : w.ownsRow b2 92 2 xv m ys) (h1 : ∀ u ∈ ys, u.oneCell' = true) (hb : n + m ≤ 100000) (hbase : base ≤ w.heap.size)
    (h : ∀ ao cap w', Onto w base 92 2 v (n + m) (xs ++ ys) ao cap w' → K (a.put o.dst (.slice ao (n + m) cap)) w') :
    if Region.wanted o (yielded ops a.tmps) = true then Oper.wp Tryz.prog o a w K Q else E := by
  have hw : Region.wanted o (yielded ops a.tmps) = true := by simp [Region.wanted, hgd]
  rw [if_pos hw]
  exact wp_onto_decl s x ho w base n v xs hs hown b2 m ys xv hx hsrc h1 hb hbase h
theorem run_nil_bind (ty : TypeId) (v : Value) (base n : Nat) (xs : List Value) (c : Nat) (w : World) (h : w.ownsRow base 59 10 v n xs) :
    (Builtin.append_ #[25, 25] ty #[v, .slice none 0 c]).run Tryz.prog w = .ok v w := by
  have hu : Tryz.prog.underlying 25 = some (.slice 59) := Tryz.underlying25
  rcases h.2 with ⟨rfl, rfl⟩ | ⟨g, cap, cur, rfl, _, _, hcap, _⟩
  · simp [Builtin.append_, run_underlying hu, Tryz.sizeOf59, Builtin.firstCells, Builtin.lenOf, go_sem]
  · simp [Builtin.append_, run_underlying hu, Tryz.sizeOf59, Builtin.firstCells, Builtin.lenOf, go_sem, hcap]
theorem run_onto_bind (ty : TypeId) (w : World) (base n : Nat) (v : Value) (xs : List Value) (hown : w.ownsRow base 59 10 v n xs) (b2 m : Nat) (ys : List Value) (x : Value) (hx : w.ownsRow b2 59 10 x m ys) (h1 : ∀ u ∈ ys, u.oneCell' = true) (hb : n + m ≤ 100000) (hbase : base ≤ w.heap.size) :
    ∃ ao cap w', (Builtin.append_ #[25, 25] ty #[v, x]).run Tryz.prog w = .ok (.slice ao (n + m) cap) w' ∧ Onto w base 59 10 v (n + m) (xs ++ ys) ao cap w' := by
  obtain ⟨i0, hi, hz0, hz1, hz2⟩ := info_parts Tryz.info_bind
  obtain ⟨hl, ⟨rfl, rfl⟩ | ⟨g, cap, cur, rfl, h2, h3, h4, h5, h6, h7⟩⟩ := id hx
  · have hy : ys = [] := List.length_eq_zero_iff.1 (by simpa using hl)
    subst hy
    obtain ⟨ao, cap, rfl, hlow⟩ := own_shape hown
    exact ⟨ao, cap, w, run_nil_bind ty _ base n xs 0 w hown, by simpa using hown, ⟨rfl, rfl, rfl, Nat.le_refl _, fun _ _ _ => rfl⟩, Or.inl rfl⟩
  · obtain ⟨v', w', hr, q2, q3, _, q5⟩ := run_append_own_at (P := Tryz.prog) w base 25 ty 59 i0 (.agg #[.string ⟨#[]⟩, .slice none 0 0, .int .i64 0, .string ⟨#[]⟩, .bool false, .int .u64 0, .slice none 0 0, .slice none 0 0, .slice none 0 0, .slice none 0 0]) 10 176 Tryz.underlying25 hi hz0 hz1 hz2 rfl (by decide) v n xs hown ⟨g, 0, none⟩ m cap ys hl (own_news hx) h1 (by unfold maxLen; omega) (by omega) hbase
    obtain ⟨ao, c2, rfl, hlow⟩ := own_shape q2
    exact ⟨ao, c2, w', hr, q2, q3, q5⟩
theorem wp_onto_bind {o : Oper} {a : Act} {K : Act → World → Prop} {Q : Exit → Act → World → Prop} (s x : Operand) (ho : o.op = .call { callee := .builtin .append, args := #[s, x], argTypes := #[25, 25] })
    (w : World) (base n : Nat) (v : Value) (xs : List Value) (hs : a.eval s = v) (hown : w.ownsRow base 59 10 v n xs) (b2 m : Nat) (ys : List Value) (xv : Value) (hx : a.eval x = xv) (hsrc : w.ownsRow b2 59 10 xv m ys) (h1 : ∀ u ∈ ys, u.oneCell' = true) (hb : n + m ≤ 100000) (hbase : base ≤ w.heap.size)
    (h : ∀ ao cap w', Onto w base 59 10 v (n + m) (xs ++ ys) ao cap w' → K (a.put o.dst (.slice ao (n + m) cap)) w') : o.wp Tryz.prog a w K Q := by
  obtain ⟨ao, cap, w', hr, h2⟩ := run_onto_bind o.type w base n v xs hown b2 m ys xv hsrc h1 hb hbase
  unfold Oper.wp execOp
  simp only [ho, resolve, invoke, builtin, Sem.run_bind, Sem.run_pure, Result.andThen_ok, List.map_toArray, List.map_cons, List.map_nil, hs, hx, hr]
  exact h ao cap w' h2
theorem step_onto_bind {ops : Array Oper} {o : Oper} {a : Act} {K : Act → World → Prop} {Q : Exit → Act → World → Prop} {E : Prop} (hgd : o.guard = none) (s x : Operand) (ho : o.op = .call { callee := .builtin .append, args := #[s, x], argTypes := #[25, 25] })
    (w : World) (base n : Nat) (v : Value) (xs : List Value) (hs : a.eval s = v) (hown : w.ownsRow base 59 10 v n xs) (b2 m : Nat) (ys : List Value) (xv : Value) (hx : a.eval x = xv) (hsrc : w.ownsRow b2 59 10 xv m ys) (h1 : ∀ u ∈ ys, u.oneCell' = true) (hb : n + m ≤ 100000) (hbase : base ≤ w.heap.size)
    (h : ∀ ao cap w', Onto w base 59 10 v (n + m) (xs ++ ys) ao cap w' → K (a.put o.dst (.slice ao (n + m) cap)) w') :
    if Region.wanted o (yielded ops a.tmps) = true then Oper.wp Tryz.prog o a w K Q else E := by
  have hw : Region.wanted o (yielded ops a.tmps) = true := by simp [Region.wanted, hgd]
  rw [if_pos hw]
  exact wp_onto_bind s x ho w base n v xs hs hown b2 m ys xv hx hsrc h1 hb hbase h
theorem step_wanted {P : Program} {ops : Array Oper} {o : Oper} {a : Act} {w : World} {K : Act → World → Prop} {Q : Exit → Act → World → Prop} {E : Prop} (hg : o.guard = none) (h : Oper.wp P o a w K Q) :
    if Region.wanted o (yielded ops a.tmps) = true then Oper.wp P o a w K Q else E := by
  have hw : Region.wanted o (yielded ops a.tmps) = true := by simp [Region.wanted, hg]
  rw [if_pos hw]
  exact h
theorem boxw_o {W W' : World} {p : Nat} {c : Value} {cs : List Value} {o : Option Nat} (h : BoxW W p (c :: cs)) (hg : W.grownBy W' o) (hp : some p ≠ o) : BoxW W' p (c :: cs) :=
  ⟨fun j v hj => (World.cell?_of_block (hg.block p h.lt hp)).trans (h.1 j v hj), fun j => (World.frozen?_of_block (w := W) (hg.block p h.lt hp)).trans (h.2 j)⟩
theorem own_o {w w' : World} {base : Nat} {e : TypeId} {size : Nat} {v : Value} {n : Nat} {xs : List Value} (h : w.ownsRow base e size v n xs) {o : Option Nat} (hb : w.grownBy w' o) (hn : ∀ g, v.ownBlock = some g → some g ≠ o) : w'.ownsRow base e size v n xs := by
  obtain ⟨h0, h | ⟨g, cap, cur, rfl, h2, h3, h4⟩⟩ := h
  · exact ⟨h0, Or.inl h⟩
  · refine ⟨h0, Or.inr ⟨g, cap, cur, rfl, h2, ?_, h4⟩⟩
    have hg : g < w.heap.size := by
      rcases Nat.lt_or_ge g w.heap.size with h | h
      · exact h
      · rw [Array.getElem?_eq_none h] at h3; cases h3
    rw [hb.block g hg (hn g rfl)]
    exact h3
def Sf {α : Type} (o : Out α) (rest : List Tok) : Prop :=
  match o with
  | .ok _ _ r => ∀ y, y ∈ r → y ∈ rest
  | .bad _ _ => True
theorem Sf.bind {α β : Type} {o : Out α} {f : α → Int → List Tok → Out β} {rest : List Tok} (h : Sf o rest) (hf : ∀ a l r, Sf (f a l r) r) : Sf (o.bind f) rest := by
  cases o with
  | bad e l => trivial
  | ok a l r =>
    have h2 := hf a l r
    show Sf (f a l r) rest
    cases hq : f a l r with
    | bad e l => trivial
    | ok b l2 r2 => rw [hq] at h2; exact fun y hy => h y (h2 y hy)
def Suf {α : Type} (p : Par α) : Prop := ∀ l r, Sf (p l r) r
theorem sf_ok {α : Type} (a : α) (l : Int) (r : List Tok) : Sf (.ok a l r) r := fun _ h => h
theorem sf_refuse {α : Type} (e l : Int) (r : List Tok) (q : List Tok) : Sf (refuseO e l r : Out α) q := by rw [refuseO_eq]; trivial
theorem take_suf : Suf takeO := fun l r => by
  cases r with
  | nil => trivial
  | cons y r => exact fun z hz => List.mem_cons_of_mem _ hz
theorem want_suf (s : Sh) : Suf (wantO s) := fun l r => by
  unfold wantO
  split
  · exact take_suf l r
  · exact sf_refuse _ _ _ _
theorem names_suf : ∀ (r : List Tok) (l : Int) (acc : List Nm), ∀ y, y ∈ (namesO l r acc).2.2 → y ∈ r
  | [], l, acc => fun y hy => hy
  | z :: r, l, acc => by
    unfold namesO
    split
    · exact fun y hy => List.mem_cons_of_mem _ (names_suf r _ _ y hy)
    · exact fun y hy => hy
theorem Sf.mono {α : Type} {o : Out α} {r q : List Tok} (h : Sf o r) (hm : ∀ y, y ∈ r → y ∈ q) : Sf o q := by
  cases o with
  | ok a l r => exact fun y hy => hm y (h y hy)
  | bad e l => trivial
theorem bind_suf {ex : Par Ex} (h : Suf ex) : Suf (bindO ex) := fun l r =>
  (want_suf _ l r).bind fun _ l r => Sf.mono ((want_suf _ _ _).bind fun _ l2 r2 => (h l2 r2).bind fun _ _ _ => sf_ok _ _ _) (names_suf r l [])
theorem more_suf {α : Type} {item : Par α} (h : Suf item) : ∀ (n : Nat) (acc : List α), Suf (moreO item n acc)
  | 0, acc => fun l r => sf_ok _ _ _
  | n + 1, acc => fun l r => by
    unfold moreO
    split
    · exact (take_suf l r).bind fun _ l r => (h l r).bind fun a l2 r2 => more_suf h n _ l2 r2
    · exact sf_ok _ _ _
theorem some_suf {α : Type} {item : Par α} (h : Suf item) : Suf (someO item) := fun l r => (h l r).bind fun _ l r => more_suf h _ _ l r
theorem atom_suf {ex : Par Ex} (h : Suf ex) : Suf (atomO ex) := fun l r => by
  unfold atomO
  split
  · exact (take_suf l r).bind fun t l r => sf_ok _ _ _
  split
  · exact (take_suf l r).bind fun t l r => sf_ok _ _ _
  split
  · exact (take_suf l r).bind fun t l r => sf_ok _ _ _
  split
  · exact (take_suf l r).bind fun t l r => sf_ok _ _ _
  split
  · exact (want_suf _ l r).bind fun _ l r => (h l r).bind fun x l2 r2 => (want_suf _ l2 r2).bind fun _ l3 r3 => sf_ok _ _ _
  · exact sf_refuse _ _ _ _
theorem atoms_suf {ex : Par Ex} (h : Suf ex) : ∀ (n : Nat) (acc : List Ex), Suf (atomsO ex n acc)
  | 0, acc => fun l r => sf_ok _ _ _
  | n + 1, acc => fun l r => by
    unfold atomsO
    split
    · exact (atom_suf h l r).bind fun a l r => atoms_suf h n _ l r
    · exact sf_ok _ _ _
theorem row_suf {ex : Par Ex} (h : Suf ex) : Suf (rowO ex) := fun l r =>
  (atom_suf h l r).bind fun _ l r => (atoms_suf h _ _ l r).bind fun _ _ _ => sf_ok _ _ _
theorem rows_suf {ex : Par Ex} (h : Suf ex) : Suf (rowsO ex) := fun l r =>
  (row_suf h l r).bind fun a l r => by
    split
    · exact (take_suf l r).bind fun t l2 r2 => (row_suf h l2 r2).bind fun b l3 r3 => sf_ok _ _ _
    · exact sf_ok _ _ _
theorem let_suf {ex : Par Ex} (h : Suf ex) : Suf (letO ex) := fun l r =>
  (want_suf _ l r).bind fun _ l r => (some_suf (bind_suf h) l r).bind fun _ l2 r2 => (want_suf _ l2 r2).bind fun _ l3 r3 => (h l3 r3).bind fun _ _ _ => sf_ok _ _ _
theorem alt_suf {ex : Par Ex} (h : Suf ex) : Suf (altO ex) := fun l r => by
  unfold altO
  split
  · exact (take_suf l r).bind fun t l r => Sf.mono ((want_suf _ _ _).bind fun _ l2 r2 => (h l2 r2).bind fun x l3 r3 => sf_ok _ _ _) (names_suf r l [])
  split
  · exact (take_suf l r).bind fun t l r => (want_suf _ l r).bind fun _ l2 r2 => (h l2 r2).bind fun x l3 r3 => sf_ok _ _ _
  · exact (want_suf _ l r).bind fun t l r => (want_suf _ l r).bind fun _ l2 r2 => (h l2 r2).bind fun x l3 r3 => sf_ok _ _ _
theorem case_suf {ex : Par Ex} (h : Suf ex) : Suf (caseO ex) := fun l r =>
  (want_suf _ l r).bind fun _ l r => (h l r).bind fun x l2 r2 => (want_suf _ l2 r2).bind fun _ l3 r3 => (want_suf _ l3 r3).bind fun _ l4 r4 => by
    split
    · exact (want_suf _ l4 r4).bind fun _ l5 r5 => sf_ok _ _ _
    · exact (some_suf (alt_suf h) l4 r4).bind fun xs l5 r5 => (want_suf _ l5 r5).bind fun _ l6 r6 => sf_ok _ _ _
theorem lam_suf {ex : Par Ex} (h : Suf ex) : Suf (lamO ex) := fun l r =>
  (want_suf _ l r).bind fun _ l r => by
    split
    · exact Sf.mono ((want_suf _ _ _).bind fun _ l2 r2 => (h l2 r2).bind fun x l3 r3 => sf_ok _ _ _) (names_suf r l [])
    · exact sf_refuse _ _ _ _
theorem expr_suf : ∀ (n d : Nat), Suf (exprO n d)
  | 0, d => fun l r => trivial
  | n + 1, d => fun l r => by
    unfold exprO
    have h := expr_suf n (d + 1)
    split
    · split
      · exact sf_refuse _ _ _ _
      split
      · exact let_suf h l r
      split
      · exact case_suf h l r
      split
      · exact lam_suf h l r
      · exact rows_suf h l r
    · exact sf_refuse _ _ _ _
def MdV (lo : Nat) (md : Md) (e : Ending) (w : World) : Prop :=
  ∃ vc vb xb, e = .returned (.agg #[vc, vb]) ∧ w.ownsRow lo 92 2 vc md.1.length (declV md.1) ∧ w.ownsRow lo 59 10 vb md.2.length xb ∧ BndsAt w (fun g => lo ≤ g) md.2 xb
structure MdI (w : World) (b me ma : Nat) (N : Nat) (wr : World) (l : Int) (r : List Tok) (cs : List (Nm × Int)) (bs : List Bnd) (vc vb : Value) (xb : List Value) : Prop where
  R : Rdr wr b me ma l r 0
  g : w.grownBy wr (some b)
  n : cs.length + bs.length + r.length ≤ N
  x : ∀ y, y ∈ r → 0 ≤ y.1.x
  p : BoxW wr w.heap.size [.slice none 0 0, .slice none 0 0]
  q : BoxW wr (w.heap.size + 1) [vc, vb]
  oc : wr.ownsRow (w.heap.size + 2) 92 2 vc cs.length (declV cs)
  ob : wr.ownsRow (w.heap.size + 2) 59 10 vb bs.length xb
  bt : BndsAt wr (fun g => w.heap.size + 2 ≤ g ∧ some g ≠ vc.ownBlock ∧ some g ≠ vb.ownBlock) bs xb
  ne : ∀ g, vc.ownBlock = some g → vb.ownBlock ≠ some g
theorem MdI.grown {w wr w' : World} {b me ma N : Nat} {l l' : Int} {r r' : List Tok} {cs : List (Nm × Int)} {bs : List Bnd} {vc vb : Value} {xb : List Value} (h : MdI w b me ma N wr l r cs bs vc vb xb) (hb : b < w.heap.size) (hg : wr.grownBy w' (some b)) (hR : Rdr w' b me ma l' r' 0) (hl : r'.length ≤ r.length) (hx : ∀ y, y ∈ r' → y ∈ r) : MdI w b me ma N w' l' r' cs bs vc vb xb :=
  ⟨hR, Gt h.g hg, by have := h.n; omega, fun y hy => h.x y (hx y hy), boxw_grown h.p hg (by omega), boxw_grown h.q hg (by omega),
   own_o h.oc hg (fun g e e2 => by have := (h.oc.lt g e).1; have := Oi e2; omega), own_o h.ob hg (fun g e e2 => by have := (h.ob.lt g e).1; have := Oi e2; omega),
   h.bt.move (fun g hk lt => ⟨hk, hg.block g lt (by have := hk.1; simp; omega)⟩), h.ne⟩
theorem MdI.bind {w w5 w9 : World} {b me ma N : Nat} {l : Int} {r : List Tok} {cs : List (Nm × Int)} {bs : List Bnd} {vc vb : Value} {xb ya : List Value} {a : Bnd} {ao : Option Addr} {cap lo2 : Nat} (h : MdI w b me ma N w5 l r cs bs vc vb xb) (hb : b < w.heap.size) (h9 : Onto w5 (w.heap.size + 2) 59 10 vb (bs.length + 1) (xb ++ ya) ao cap w9) (hn : cs.length + bs.length + 1 + r.length ≤ N)
    (hlo : w.heap.size + 2 ≤ lo2) (ha : BndsAt w5 (fun g => lo2 ≤ g) [a] ya) (hvc : ∀ g, vc.ownBlock = some g → g < lo2) (hvb : ∀ g, vb.ownBlock = some g → g < lo2) :
    MdI w b me ma N (w9.setCell ⟨w.heap.size + 1, 1, none⟩ (.slice ao (bs.length + 1) cap)) l r cs (bs ++ [a]) vc (.slice ao (bs.length + 1) cap) (xb ++ ya) := by
  obtain ⟨h1, h2, h3⟩ := h9
  have hq5 := h.q.lt
  have lo : ∀ g, vb.ownBlock = some g → w.heap.size + 2 ≤ g := fun g e => (h.ob.lt g e).1
  have lb : ∀ g, vc.ownBlock = some g → w.heap.size + 2 ≤ g ∧ g < w5.heap.size := fun g e => h.oc.lt g e
  have lx : ∀ g, (Value.slice ao (bs.length + 1) cap).ownBlock = some g → w.heap.size + 2 ≤ g := fun g e => (h1.lt g e).1
  have hgs := set_grown w9 (w.heap.size + 1) 1 (.slice ao (bs.length + 1) cap)
  obtain ⟨q, hq, hg⟩ := grown_some (b := b) h2 (fun g e => by have := lo g e; omega)
  refine ⟨(h.R.past hg hq).over (by omega) _, grown_new (grown_past h.g h2 (fun g e => by have := lo g e; omega)) (by omega) _, by simp; omega, h.x, ?_, ?_, ?_, ?_, ?_, ?_⟩
  · exact boxw_o (boxw_o h.p h2 (fun e => by have := lo _ e.symm; omega)) hgs (fun e => by have := Oi e; omega)
  · exact (boxw_o h.q h2 (fun e => by have := lo _ e.symm; omega)).set 1 (show 1 < 2 by decide) _
  · exact own_o (own_o h.oc h2 (fun g e e2 => h.ne g e e2.symm)) hgs (fun g e e2 => by have := (lb g e).1; have := Oi e2; omega)
  · rw [List.length_append]
    exact own_o h1 hgs (fun g e e2 => by have := lx g e; have := Oi e2; omega)
  · have far : ∀ g, w.heap.size + 2 ≤ g → g < w5.heap.size → some g ≠ vc.ownBlock → some g ≠ vb.ownBlock → (w.heap.size + 2 ≤ g ∧ some g ≠ vc.ownBlock ∧ some g ≠ (Value.slice ao (bs.length + 1) cap).ownBlock) ∧ (w9.setCell ⟨w.heap.size + 1, 1, none⟩ (.slice ao (bs.length + 1) cap)).heap[g]? = w5.heap[g]? := by
      intro g k1 lt k2 k3
      refine ⟨⟨k1, k2, ?_⟩, (hgs.block g (Nat.lt_of_lt_of_le lt h2.size) (fun e => by have := Oi e; omega)).trans (h2.block g lt k3)⟩
      rcases h3 with h3 | h3
      · rw [h3]; exact k3
      · rw [h3]; intro e; have := Oi e; omega
    have hold := h.bt.move (K' := fun g => w.heap.size + 2 ≤ g ∧ some g ≠ vc.ownBlock ∧ some g ≠ (Value.slice ao (bs.length + 1) cap).ownBlock) (fun g hk lt => far g hk.1 lt hk.2.1 hk.2.2)
    have hnew := ha.move (K' := fun g => w.heap.size + 2 ≤ g ∧ some g ≠ vc.ownBlock ∧ some g ≠ (Value.slice ao (bs.length + 1) cap).ownBlock) (fun g hk lt => far g (by omega) lt (fun e => by have := hvc g e.symm; omega) (fun e => by have := hvb g e.symm; omega))
    cases hnew with
    | cons n ps e _ v0 c0 x0 hp he tl =>
      cases tl
      rw [List.append_nil]
      exact hold.snoc (x := (n, ps, e)) hp he
  · intro g e e2
    rcases h3 with h3 | h3
    · exact h.ne g e (h3.symm.trans e2)
    · have := Oi (h3.symm.trans e2)
      have := (lb g e).2
      omega
theorem own_at {w : World} {base : Nat} {e : TypeId} {size : Nat} {a : Option Addr} {n c : Nat} {xs : List Value} (h : w.ownsRow base e size (.slice a n c) n xs) (hn : 0 < n) : ∃ g, a = some ⟨g, 0, none⟩ ∧ n ≤ c ∧ ∀ j u, xs[j]? = some u → w.cell? ⟨g, j, none⟩ = some u := by
  rcases id h.2 with ⟨e, e2⟩ | ⟨g, cap, cur, e, hg, hb, h1, h2, -⟩
  · omega
  · cases e
    refine ⟨g, rfl, h1, fun j u hj => ?_⟩
    have hadd : (⟨g, 0, none⟩ : Addr).add j = ⟨g, j, none⟩ := by unfold Addr.add; split <;> simp_all
    rw [← hadd]
    exact own_news h j u hj
theorem shift_at (n i j : Nat) (c x : List Value) (hc : c.length = n) : (c ++ x)[(j + 1) * n + i]? = x[j * n + i]? := by
  have h : (j + 1) * n = j * n + n := Nat.succ_mul j n
  rw [List.getElem?_append_right (by omega), hc, h]
  congr 1
  omega
theorem ExsAt.at {W : World} {K : Nat → Prop} : ∀ {bs : List Ex} {xs : List Value}, ExsAt W K bs xs → ∀ j (hj : j < bs.length), ∃ k nm f u vp vk vb va, ExAt W K bs[j] [.int .i64 k, .string nm, .bool f, .int .u64 u, vp, vk, vb, va] ∧ xs[j * 8 + 0]? = some (.int .i64 k) ∧ xs[j * 8 + 1]? = some (.string nm) ∧ xs[j * 8 + 2]? = some (.bool f) ∧ xs[j * 8 + 3]? = some (.int .u64 u) ∧ xs[j * 8 + 4]? = some vp ∧ xs[j * 8 + 5]? = some vk ∧ xs[j * 8 + 6]? = some vb ∧ xs[j * 8 + 7]? = some va
  | _ :: _, _, .cons e es cs xs h t, 0, _ => by
    cases h with
    | mk k n f x ps ks bs al vp vk vb va xk xb xa hp hk hb ha tk tb ta => exact ⟨k, _, f, x, vp, vk, vb, va, .mk k n f x ps ks bs al vp vk vb va xk xb xa hp hk hb ha tk tb ta, rfl, rfl, rfl, rfl, rfl, rfl, rfl, rfl⟩
  | _ :: es, _, .cons e _ cs xs h t, j + 1, hj => by
    have hc : cs.length = 8 := by cases h; rfl
    obtain ⟨k, nm, f, u, vp, vk, vb, va, h1, q0, q1, q2, q3, q4, q5, q6, q7⟩ := t.at j (by simpa using hj)
    exact ⟨k, nm, f, u, vp, vk, vb, va, h1, (shift_at 8 0 j cs xs hc).trans q0, (shift_at 8 1 j cs xs hc).trans q1, (shift_at 8 2 j cs xs hc).trans q2, (shift_at 8 3 j cs xs hc).trans q3, (shift_at 8 4 j cs xs hc).trans q4, (shift_at 8 5 j cs xs hc).trans q5, (shift_at 8 6 j cs xs hc).trans q6, (shift_at 8 7 j cs xs hc).trans q7⟩
theorem BndsAt.at {W : World} {K : Nat → Prop} : ∀ {bs : List Bnd} {xs : List Value}, BndsAt W K bs xs → ∀ j (hj : j < bs.length), ∃ vq k nm f u vp vk vb va, RowAt W K 9 1 vq bs[j].2.1.length (namesV bs[j].2.1) ∧ ExAt W K bs[j].2.2 [.int .i64 k, .string nm, .bool f, .int .u64 u, vp, vk, vb, va] ∧ xs[j * 10 + 0]? = some (.string (tx bs[j].1)) ∧ xs[j * 10 + 1]? = some vq ∧ xs[j * 10 + 2]? = some (.int .i64 k) ∧ xs[j * 10 + 3]? = some (.string nm) ∧ xs[j * 10 + 4]? = some (.bool f) ∧ xs[j * 10 + 5]? = some (.int .u64 u) ∧ xs[j * 10 + 6]? = some vp ∧ xs[j * 10 + 7]? = some vk ∧ xs[j * 10 + 8]? = some vb ∧ xs[j * 10 + 9]? = some va
  | _ :: _, _, .cons n0 p0 e es vq cs xs hr h t, 0, _ => by
    cases h with
    | mk k n f x ps ks bs al vp vk vb va xk xb xa hp hk hb ha tk tb ta => exact ⟨vq, k, _, f, x, vp, vk, vb, va, hr, .mk k n f x ps ks bs al vp vk vb va xk xb xa hp hk hb ha tk tb ta, rfl, rfl, rfl, rfl, rfl, rfl, rfl, rfl, rfl, rfl⟩
  | _ :: es, _, .cons n0 p0 e _ vq cs xs hr h t, j + 1, hj => by
    have hc : (.string (tx n0) :: vq :: cs).length = 10 := by cases h; rfl
    obtain ⟨vq', k, nm, f, u, vp, vk, vb, va, h0, h1, q0, q1, q2, q3, q4, q5, q6, q7, q8, q9⟩ := t.at j (by simpa using hj)
    have s := fun i => shift_at 10 i j (.string (tx n0) :: vq :: cs) xs hc
    exact ⟨vq', k, nm, f, u, vp, vk, vb, va, h0, h1, (s 0).trans q0, (s 1).trans q1, (s 2).trans q2, (s 3).trans q3, (s 4).trans q4, (s 5).trans q5, (s 6).trans q6, (s 7).trans q7, (s 8).trans q8, (s 9).trans q9⟩
theorem AltsAt.at {W : World} {K : Nat → Prop} : ∀ {bs : List Alt} {xs : List Value}, AltsAt W K bs xs → ∀ j (hj : j < bs.length), ∃ vq k nm f u vp vk vb va, RowAt W K 9 1 vq bs[j].2.2.2.2.1.length (namesV bs[j].2.2.2.2.1) ∧ ExAt W K bs[j].2.2.2.2.2 [.int .i64 k, .string nm, .bool f, .int .u64 u, vp, vk, vb, va] ∧ xs[j * 13 + 0]? = some (.int .i64 bs[j].1) ∧ xs[j * 13 + 1]? = some (.string (tx bs[j].2.1)) ∧ xs[j * 13 + 2]? = some (.bool bs[j].2.2.1) ∧ xs[j * 13 + 3]? = some (.int .u64 bs[j].2.2.2.1) ∧ xs[j * 13 + 4]? = some vq ∧ xs[j * 13 + 5]? = some (.int .i64 k) ∧ xs[j * 13 + 6]? = some (.string nm) ∧ xs[j * 13 + 7]? = some (.bool f) ∧ xs[j * 13 + 8]? = some (.int .u64 u) ∧ xs[j * 13 + 9]? = some vp ∧ xs[j * 13 + 10]? = some vk ∧ xs[j * 13 + 11]? = some vb ∧ xs[j * 13 + 12]? = some va
  | _ :: _, _, .cons k0 n0 f0 x0 p0 e es vq cs xs hr h t, 0, _ => by
    cases h with
    | mk k n f x ps ks bs al vp vk vb va xk xb xa hp hk hb ha tk tb ta => exact ⟨vq, k, _, f, x, vp, vk, vb, va, hr, .mk k n f x ps ks bs al vp vk vb va xk xb xa hp hk hb ha tk tb ta, rfl, rfl, rfl, rfl, rfl, rfl, rfl, rfl, rfl, rfl, rfl, rfl, rfl⟩
  | _ :: es, _, .cons k0 n0 f0 x0 p0 e _ vq cs xs hr h t, j + 1, hj => by
    have hc : (.int .i64 k0 :: .string (tx n0) :: .bool f0 :: .int .u64 x0 :: vq :: cs).length = 13 := by cases h; rfl
    obtain ⟨vq', k, nm, f, u, vp, vk, vb, va, h0, h1, q0, q1, q2, q3, q4, q5, q6, q7, q8, q9, q10, q11, q12⟩ := t.at j (by simpa using hj)
    have s := fun i => shift_at 13 i j (.int .i64 k0 :: .string (tx n0) :: .bool f0 :: .int .u64 x0 :: vq :: cs) xs hc
    exact ⟨vq', k, nm, f, u, vp, vk, vb, va, h0, h1, (s 0).trans q0, (s 1).trans q1, (s 2).trans q2, (s 3).trans q3, (s 4).trans q4, (s 5).trans q5, (s 6).trans q6, (s 7).trans q7, (s 8).trans q8, (s 9).trans q9, (s 10).trans q10, (s 11).trans q11, (s 12).trans q12⟩
theorem RowAt.below {W W' : World} {K : Nat → Prop} {e : TypeId} {size : Nat} {v : Value} {n : Nat} {xs : List Value} (h : RowAt W K e size v n xs) (hb : Below W.heap.size W W') : RowAt W' K e size v n xs := h.move fun g hk lt => ⟨hk, hb.block g lt⟩
theorem ExAt.low {W W' : World} {K : Nat → Prop} {x : Ex} {cs : List Value} (h : ExAt W K x cs) (hb : Below W.heap.size W W') : ExAt W' K x cs := h.move fun g hk lt => ⟨hk, hb.block g lt⟩
theorem snames_any (bs : List Bnd) (a : Option Addr) (c : Nat) (K K2 : Nat → Prop) (xb : List Value) (w : World) (hn : bs.length ≤ 100000) (hr : RowAt w K 59 10 (.slice a bs.length c) bs.length xb) (hb : BndsAt w K2 bs xb) :
    Calls Tryz.prog 35 #[.slice a bs.length c] w fun e w' => (∃ v, e = .returned v ∧ w'.ownsRow w.heap.size 9 1 v bs.length (namesV (bNames bs))) ∧ Below w.heap.size w w' := by
  have HO := Hd (Ai hr hb)
  obtain ⟨i0, hi0, hz0, hzs, hzb⟩ := info_parts Tryz.info_text
  clear hr hb
  go_enter Tryz.func35, Tryz.ntmps35
  go_wp2_with fail
  go_loopw [3, 4] (fun s2 s3 wr => ∃ (j : Nat) (vv : Value), j ≤ bs.length ∧ vv = s2 ∧ s3 = .int .i64 j ∧ wr.ownsRow w.heap.size 9 1 vv j (namesV (bNames (bs.take j))) ∧ Below w.heap.size w wr) (fun _ s3 _ => bs.length - (RowKit.intOf s3).toNat)
  case atStart => exact ⟨0, _, Nat.zero_le _, rfl, rfl, World.ownsRow_nil _ _ _ _, Below.refl _ _⟩
  case round =>
    obtain ⟨j, vv, hj, rfl, rfl, hown, hbr⟩ := hrel
    obtain ⟨aa, cc, rfl, hlow⟩ := own_shape hown
    have HW := Hd (Ai hown (Ai hbr hlow))
    clear hown hbr hlow
    by_cases gj : j < bs.length
    · have gj' : (j : Int) < (bs.length : Int) := by omega
      obtain ⟨vq, q1, q2, q3, q4, q5, q6, q7, q8, -, -, z0, -⟩ := HO.out.2.at j gj
      obtain ⟨g1, o1, ea1, k1, m1', -, ht1⟩ := HO.out.1.at (by omega)
      subst ea1
      have p0 := later' HW.out.2.1 (ht1 _ _ z0)
      simp only [Nat.add_zero] at p0
      have hwz : w.heap.size ≤ wr.heap.size := HW.out.2.1.size
      have HT := Hd (show namesV (bNames (bs.take (j + 1))) = namesV (bNames (bs.take j)) ++ [.string (tx bs[j].1)] by rw [List.take_succ_eq_append_getElem gj]; simp only [namesV, bNames, List.map_append, List.map_cons, List.map_nil])
      generalize bs[j].1 = nm at *
      have ej : IntKind.i64.wrap ((j : Int) + 1) = (j : Int) + 1 := by rw [IntKind.wrap_i64]; omega
      have b0 : (0 : Int) ≤ (j : Int) := by omega
      have one1 : ∀ u ∈ [Value.string (tx nm)], u.oneCell' = true := by intro u hu; simp at hu; rw [hu]; rfl
      have m9 : j + 1 ≤ maxLen := by unfold maxLen; omega
      have m8 : (j + 1) * 16 ≤ 140737488355328 := by omega
      clear ht1 z0
      go_wp2_with (at_builtin; refine wpList_append_lies _ rfl _ _ 50 rfl w.heap.size 9 i0 (.string ⟨#[]⟩) 1 16 Tryz.underlying50 hi0 hz0 hzs hzb rfl (by decide) (.slice aa j cc) j (namesV (bNames (bs.take j))) rfl (HW.out.1.alloc _) ⟨wr.heap.size, 0, none⟩ 1 1 [.string (tx nm)] rfl rfl (World.news_of_block (heap_alloc_new _ _)) one1 (by decide) m9 m8 (by simp; omega) _ rfl ?_; intro g9 cap9 w9 o1 o2 o3 o4)
      refine ⟨⟨j + 1, _, by omega, rfl, by go_num, by rw [HT.out]; exact o1, ?_⟩, by simp [RowKit.intOf]; omega⟩
      have hx := onB' HW.out.2.1 ((Below.refl wr.heap.size wr).alloc Nr (.cells #[.string (tx nm)] 9))
      exact ⟨o2.os.trans hx.os, o2.tape.trans hx.tape, o2.output.trans hx.output, Nt hx.size o2.size, fun k hk => (o2.block k (by have := hx.size; omega) (fun e => by have := HW.out.2.2 k e.symm; omega)).trans (hx.block k hk)⟩
    · obtain rfl : j = bs.length := by omega
      go_wp2_with fail
      refine bodyPost_ret (v := .slice aa bs.length cc) (by simp [results, Tryz.results35, go_sem]) rfl ?_
      have h := HW.out.1
      rw [List.take_length] at h
      exact ⟨⟨_, rfl, h⟩, HW.out.2.1⟩
end Go.Proofs.YtdjcdecbmeickaaGreatDoor
