import Derived.Shelf.LaysM
import Derived.Shelf.Strconv.Clone
import Derived.Lib.ParseIntB
import Derived.Lib.AtoiAll
import Derived.Lib.ItoaNum
import Derived.Lib.ParseIntBTie
import Derived.Lib.ParseIntBCases
import Derived.WalkKit
import Derived.WalkSpells
import Derived.WalkLawsBesides
import Derived.Deep.RegionHeld3
import Derived.Deep.DeepCutAuto
import Derived.KernelRfl
import Derived.Lib.Hide
import Derived.Lib.ItoaWalk
import Derived.Lib.LaidTab
import Derived.Stop.LaidErr
import Derived.Laws.Strings3
import Derived.Maps.OwnSet
import Derived.Maps.OwnOps
import Derived.Maps.Views
import Derived.Deep.AppendLies
import Derived.Laws.EntriesVeiled
import Derived.OpenShut
import Derived.ProofKit
import Derived.RegionTactic
import Derived.BigRegion
import Derived.Lib.ConvBytes
import Derived.Lib.AtoiAllMem
import Derived.Laws.Closers25
import Derived.Laws.Closers25b
import Derived.Shelf.Strings.SlTrimAscii
import Derived.Laws.StructEq
import Derived.Deep.MidRow
import Derived.WalkMore
import Derived.Deep.QuietTactic
import Derived.BigQuiet
import Derived.Shelf.Abstract
import Derived.RegionDies
import Derived.Deep.RegionHeldLaw
import Derived.Lib.QuietBelow
import Derived.Shelf.SlMaps.Clone
import Derived.LaidEql
import Derived.Stop.Asserts
import Derived.RowKitTokens
import Derived.StillTailTactics
import Derived.Deep.RegionHeld
import Derived.Lib.ItoaLen
import Derived.Defers
import Derived.Recover
import Derived.Laws.DeepStrings4
import Derived.Laws.OwnMore
import Derived.ChangeSame
import Derived.ChangeVars
import Derived.JoinedOf
import Derived.RowKit
import Derived.LaidLaws
import Derived.LaidHandle
import Derived.Stop.Joined
import Derived.Test.YtdjcdecbmeickaaDoorMg21
namespace Go.Proofs.YtdjcdecbmeickaaDoor
set_option maxHeartbeats 64000000
set_option maxRecDepth 100000
open Go.RowKit Go.Lib
theorem hasF_none {a : List Nm} {n : Nm} : hasF a n = none ↔ n ∈ a := by
  unfold hasF
  by_cases g : n ∈ a
  · rw [if_pos g]; exact ⟨fun _ => g, fun _ => rfl⟩
  · rw [if_neg g]; exact ⟨fun h => (by cases h), fun h => absurd h g⟩
mutual
theorem scE_mono {cs a b : List Nm} (h : Sub a b) : ∀ (e : Ex), scE cs a e = none → scE cs b e = none
  | .mk k n f x ps ks bs al, he => by
    unfold scE at he ⊢
    split at he
    · rename_i g; rw [if_pos g]; exact hasF_none.2 (h n (hasF_none.1 he))
    rename_i g1
    rw [if_neg g1]
    split at he
    · rename_i g; rw [if_pos g]; obtain ⟨p, q⟩ := or_none.1 he; exact or_none.2 ⟨p, scEs_mono h ks q⟩
    rename_i g2
    rw [if_neg g2]
    split at he
    · rename_i g; rw [if_pos g]; obtain ⟨p, q⟩ := or_none.1 he; obtain ⟨q, r⟩ := or_none.1 q; exact or_none.2 ⟨p, or_none.2 ⟨scBs_mono (h.app _) bs q, scEs_mono (h.app _) ks r⟩⟩
    rename_i g3
    rw [if_neg g3]
    split at he
    · rename_i g; rw [if_pos g]; obtain ⟨p, q⟩ := or_none.1 he; exact or_none.2 ⟨scEs_mono h ks p, scAs_mono h al q⟩
    rename_i g4
    rw [if_neg g4]
    split at he
    · rename_i g; rw [if_pos g]; obtain ⟨p, q⟩ := or_none.1 he; exact or_none.2 ⟨p, scEs_mono (h.app _) ks q⟩
    rename_i g5
    rw [if_neg g5]
    exact scEs_mono h ks he
theorem scEs_mono {cs a b : List Nm} (h : Sub a b) : ∀ (l : List Ex), scEs cs a l = none → scEs cs b l = none
  | [], _ => by unfold scEs; rfl
  | e :: r, he => by
    unfold scEs at he ⊢
    obtain ⟨p, q⟩ := or_none.1 he
    exact or_none.2 ⟨scE_mono h e p, scEs_mono h r q⟩
theorem scBs_mono {cs a b : List Nm} (h : Sub a b) : ∀ (l : List (Nm × List Nm × Ex)), scBs cs a l = none → scBs cs b l = none
  | [], _ => by unfold scBs; rfl
  | (n, ps, e) :: r, he => by
    unfold scBs at he ⊢
    obtain ⟨p, q⟩ := or_none.1 he
    obtain ⟨p1, p2⟩ := or_none.1 p
    exact or_none.2 ⟨or_none.2 ⟨p1, scE_mono (h.app ps) e p2⟩, scBs_mono h r q⟩
theorem scAs_mono {cs a b : List Nm} (h : Sub a b) : ∀ (l : List (Int × Nm × Bool × Int × List Nm × Ex)), scAs cs a l = none → scAs cs b l = none
  | [], _ => by unfold scAs; rfl
  | (k, n, f, x, ns, e) :: r, he => by
    unfold scAs at he ⊢
    obtain ⟨p, q⟩ := or_none.1 he
    refine or_none.2 ⟨?_, scAs_mono h r q⟩
    split at p
    · rename_i g; rw [if_pos g]
      obtain ⟨p1, p2⟩ := or_none.1 p
      obtain ⟨p2, p3⟩ := or_none.1 p2
      exact or_none.2 ⟨p1, or_none.2 ⟨p2, scE_mono (h.app ns) e p3⟩⟩
    rename_i g1
    rw [if_neg g1]
    split at p
    · rename_i g; rw [if_pos g]; exact scE_mono (h.app [n]) e p
    · rename_i g; rw [if_neg g]; exact scE_mono h e p
end
end Go.Proofs.YtdjcdecbmeickaaDoor
namespace Go.Proofs.YtdjcdecbmeickaaDoor
set_option maxHeartbeats 64000000
set_option maxRecDepth 100000
open Go.RowKit Go.Lib
theorem bNames_snoc (bs : List Bnd) (b : Bnd) : bNames (bs ++ [b]) = bNames bs ++ [b.1] := by simp [bNames]
theorem scM_more {cs : List (Nm × Int)} {bs : List Bnd} (h : scM (cs, bs) = none) (b : Bnd) (hn : b.1 ∉ bNames bs) (hp : b.2.1.Nodup) (he : scE (conNames (cs, bs)) (bNames bs ++ [b.1] ++ b.2.1) b.2.2 = none) : scM (cs, bs ++ [b]) = none := by
  rw [scM_none] at h ⊢
  obtain ⟨h1, h2, h3, h4⟩ := h
  refine ⟨h1, ?_, ?_, fun q hq => ?_⟩
  · show (bNames (bs ++ [b])).Nodup
    rw [bNames_snoc]
    exact List.nodup_append.2 ⟨h2, List.nodup_cons.2 ⟨fun h => (by cases h), List.nodup_nil⟩, fun x hx y hy e => hn (by rw [← List.mem_singleton.1 hy, ← e]; exact hx)⟩
  · show mainL ∈ bNames (bs ++ [b])
    rw [bNames_snoc]
    exact List.mem_append.2 (Or.inl h3)
  · show q.2.1.Nodup ∧ scE (conNames (cs, bs)) (bNames (bs ++ [b]) ++ q.2.1) q.2.2 = none
    rw [bNames_snoc]
    rcases List.mem_append.1 hq with hq | hq
    · obtain ⟨k1, k2⟩ := h4 q hq
      refine ⟨k1, scE_mono (fun x hx => ?_) _ k2⟩
      rcases List.mem_append.1 hx with hx | hx
      · exact List.mem_append.2 (Or.inl (List.mem_append.2 (Or.inl hx)))
      · exact List.mem_append.2 (Or.inr hx)
    · rw [List.mem_singleton.1 hq]
      exact ⟨hp, he⟩
theorem scBs_app {cs sc : List Nm} : ∀ (a b : List Bnd), scBs cs sc (a ++ b) = (scBs cs sc a).or (scBs cs sc b)
  | [], b => by
    show scBs cs sc b = (scBs cs sc []).or _
    conv => rhs; unfold scBs
    simp
    conv => lhs; unfold scBs
  | (n, ps, e) :: a, b => by
    show scBs cs sc ((n, ps, e) :: (a ++ b)) = _
    conv => lhs; unfold scBs
    conv => rhs; enter [1]; unfold scBs
    rw [scBs_app a b]
    generalize scBs cs sc a = p
    generalize (twF ps).or (scE cs (sc ++ ps) e) = q
    cases q <;> simp
theorem scM_worse {cs : List (Nm × Int)} {bs : List Bnd} (h : scM (cs, bs) = none) (b : Bnd) (hn : b.1 ∉ bNames bs) : scM (cs, bs ++ [b]) = (twF b.2.1).or (scE (conNames (cs, bs)) (bNames bs ++ [b.1] ++ b.2.1) b.2.2) := by
  have h0 := h
  rw [scM_none] at h
  obtain ⟨h1, h2, h3, h4⟩ := h
  have e1 : twF (conNames (cs, bs ++ [b])) = none := (twF_none _).2 h1
  have e2 : twF (bNames (bs ++ [b])) = none := (twF_none _).2 (by
    rw [bNames_snoc]
    exact List.nodup_append.2 ⟨h2, List.nodup_cons.2 ⟨fun h => (by cases h), List.nodup_nil⟩, fun x hx y hy e => hn (by rw [← List.mem_singleton.1 hy, ← e]; exact hx)⟩)
  have e3 : mainL ∈ bNames (bs ++ [b]) := by rw [bNames_snoc]; exact List.mem_append.2 (Or.inl h3)
  have e4 : scBs (conNames (cs, bs)) (bNames (bs ++ [b])) bs = none := by
    rw [scBs_none]
    intro q hq
    obtain ⟨k1, k2⟩ := h4 q hq
    refine ⟨k1, scE_mono (fun x hx => ?_) _ k2⟩
    rw [bNames_snoc]
    rcases List.mem_append.1 hx with hx | hx
    · exact List.mem_append.2 (Or.inl (List.mem_append.2 (Or.inl hx)))
    · exact List.mem_append.2 (Or.inr hx)
  unfold scM
  show (twF (conNames (cs, bs ++ [b]))).or ((twF (bNames (bs ++ [b]))).or ((if mainL ∈ bNames (bs ++ [b]) then none else some (10, mainL)).or (scBs (conNames (cs, bs)) (bNames (bs ++ [b])) (bs ++ [b])))) = _
  rw [e1, e2, if_pos e3, scBs_app, e4]
  obtain ⟨n, ps, x⟩ := b
  show (scBs (conNames (cs, bs)) (bNames (bs ++ [(n, ps, x)])) [(n, ps, x)] : Fo) = _
  unfold scBs
  have e5 : scBs (conNames (cs, bs)) (bNames (bs ++ [(n, ps, x)])) [] = none := by unfold scBs; rfl
  rw [e5, or_nil, bNames_snoc]
end Go.Proofs.YtdjcdecbmeickaaDoor
namespace Go.Proofs.YtdjcdecbmeickaaDoor
set_option maxHeartbeats 64000000
set_option maxRecDepth 100000
open Go.RowKit Go.Lib
def q0L : Nm := [113, 48]
def q1L : Nm := [113, 49]
theorem modL_small {l : List UInt8} {md : Md} {a : Int} {b : List Tok} (h : modL l = .ok md a b) : md.1.length + (md.2.length + sumN nB md.2) ≤ 4096 := by
  unfold modL at h
  cases hR : lexL l with
  | bad k line => rw [hR] at h; cases h
  | good T =>
    rw [hR] at h
    obtain ⟨-, h2, -⟩ := lexL_own hR
    have ht := parse_wt h
    unfold wtM at ht
    rw [sumN_nB2] at ht
    omega
theorem MdOk.snoc {m : Md} (h : MdOk m) (b : Bnd) (hb : wB b) (hw : m.1.length + (m.2.length + sumN nB m.2) + nB b ≤ 5000) : MdOk (m.1, m.2 ++ [b]) := by
  refine ⟨h.wd, fun x hx => ?_, ?_⟩
  · rcases List.mem_append.1 hx with hx | hx
    · exact h.wb x hx
    · rw [List.mem_singleton.1 hx]; exact hb
  · show 10 + m.1.length + ((m.2 ++ [b]).length + sumN nB (m.2 ++ [b])) ≤ 100000
    rw [List.length_append, sumN_app]
    simp only [sumN, List.length_cons, List.length_nil]
    omega
theorem one_wB {ps : List Nm} {n : Nm} (hp : Nms ps) (hn : NmOk n) : wB (q0L, ps, .leaf 1 n) := ⟨show q0L ≠ [] ∧ q0L.length ≤ 100000 from ⟨by decide, by decide⟩, hp, leaf_w hn⟩
theorem leaf_sc (cs sc : List Nm) (n : Nm) : scE cs sc (.leaf 1 n) = hasF sc n := by
  show scE cs sc (.mk 1 n false 0 [] [] [] []) = _
  unfold scE
  rw [if_pos rfl]
theorem free_one {m : Md} (h : scM m = none) (hn : q0L ∉ bNames m.2) (n : Nm) : scM (m.1, m.2 ++ [(q0L, [n], .leaf 1 n)]) = none :=
  scM_more (cs := m.1) (bs := m.2) h (q0L, [n], .leaf 1 n) hn (List.nodup_cons.2 ⟨fun h => (by cases h), List.nodup_nil⟩) (by
    rw [leaf_sc]
    exact hasF_none.2 (List.mem_append.2 (Or.inr (List.mem_singleton.2 rfl))))
theorem free_two {m : Md} (h : scM m = none) (hn : q0L ∉ bNames m.2) (n : Nm) : scM (m.1, m.2 ++ [(q0L, [n, n], .leaf 1 n)]) = some (5, n) := by
  rw [scM_worse (cs := m.1) (bs := m.2) h (q0L, [n, n], .leaf 1 n) hn]
  show (twF [n, n]).or _ = _
  have : twF [n, n] = some (5, n) := by simp [twF, twiceL]
  rw [this]
  rfl
theorem free_none {m : Md} (h : scM m = none) (hn : q0L ∉ bNames m.2) : scM (m.1, m.2 ++ [(q0L, [], .leaf 1 q1L)]) = if q1L ∈ bNames m.2 then none else some (4, q1L) := by
  rw [scM_worse (cs := m.1) (bs := m.2) h (q0L, [], .leaf 1 q1L) hn]
  show (twF []).or (scE _ (bNames m.2 ++ [q0L] ++ []) (.leaf 1 q1L)) = _
  rw [leaf_sc, show twF ([] : List Nm) = none from rfl]
  show hasF _ _ = _
  unfold hasF
  have : q1L ∈ bNames m.2 ++ [q0L] ++ [] ↔ q1L ∈ bNames m.2 := by
    simp only [List.append_nil, List.mem_append, List.mem_singleton]
    exact ⟨fun h => h.resolve_right (by decide), Or.inl⟩
  by_cases g : q1L ∈ bNames m.2
  · rw [if_pos g, if_pos (this.2 g)]
  · rw [if_neg g, if_neg (fun k => g (this.1 k))]
theorem tx_eq (x y : Nm) : ((tx x).toList == y) = (x == y) := by
  rw [ByteArray.toList_eq]
  rfl
theorem tx_q0 {x : Nm} (h : ((tx x).toList == [113, 48]) = false) : x ≠ q0L := by
  rw [tx_eq] at h
  intro e
  rw [e] at h
  cases h
theorem no_q0 {bs : List Bnd} (h : ∀ i (g : i < bs.length), i < bs.length → bs[i].1 ≠ q0L) : q0L ∉ bNames bs := fun hx => by
  obtain ⟨b, hb, e⟩ := List.mem_map.1 hx
  obtain ⟨i, g, rfl⟩ := List.getElem_of_mem hb
  exact h i g g e
def lastC (p n : Value) : List Value := [.string (tx q0L), p, .int .i64 1, n, .bool false, .int .u64 0, .slice none 0 0, .slice none 0 0, .slice none 0 0, .slice none 0 0]
theorem last_at (W : World) (K : Nat → Prop) {ps : List Nm} {n : Nm} {p : Value} (hp : RowAt W K 9 1 p ps.length (namesV ps)) : BndsAt W K [(q0L, ps, .leaf 1 n)] (lastC p (.string (tx n))) := by
  have h := BndsAt.cons (W := W) (K := K) q0L ps (.leaf 1 n) [] p _ [] hp (ExAt.leaf W K 1 n) .nil
  exact h
def RowC (W : World) (g : Nat) (xs : List Value) : Prop := (∃ cur, W.heap[g]? = some (.cells cur 48 (0, 0))) ∧ ∀ j u, xs[j]? = some u → W.cell? ⟨g, j, none⟩ = some u
theorem RowC.of {W : World} {base c n : Nat} {a : Option Addr} {xs : List Value} (h : W.ownsRow base 48 10 (.slice a n c) n xs) (hn : 0 < n) : ∃ g, a = some ⟨g, 0, none⟩ ∧ base ≤ g ∧ g < W.heap.size ∧ n ≤ c ∧ c ≤ maxLen ∧ RowC W g xs := by
  obtain ⟨g, cap, e, h1, h2⟩ := h.form hn
  cases e
  have hat := RowAt.of (K := fun g => base ≤ g) h (fun _ h => h)
  obtain ⟨_, ⟨e, _⟩ | ⟨g', o', c', cur, e, hk, hc, h3, h4, h5⟩⟩ := hat
  · cases e
  · cases e
    exact ⟨g, rfl, h1, h2, h3, h4, ⟨cur, hc⟩, fun j u hj => by have := h5 j u hj; rwa [Nat.zero_add] at this⟩
theorem RowC.row {W : World} {K : Nat → Prop} {g n c : Nat} {xs : List Value} (h : RowC W g xs) (hk : K g) (hl : xs.length = n * 10) (h1 : n ≤ c) (h2 : c ≤ maxLen) : RowAt W K 48 10 (.slice (some ⟨g, 0, none⟩) n c) n xs := by
  obtain ⟨⟨cur, hc⟩, hx⟩ := h
  exact ⟨hl, Or.inr ⟨g, 0, c, cur, rfl, hk, hc, h1, h2, fun j u hj => by rw [Nat.zero_add]; exact hx j u hj⟩⟩
theorem RowC.set {W : World} {g : Nat} {xs : List Value} (h : RowC W g xs) (i : Nat) (hi : i < xs.length) (v : Value) : RowC (W.setCell ⟨g, i, none⟩ v) g (xs.set i v) := by
  obtain ⟨⟨cur, hc⟩, hx⟩ := h
  refine ⟨⟨_, heap_setCell_same W g i cur _ v hc⟩, fun j u hj => ?_⟩
  by_cases e : i = j
  · subst e
    rw [List.getElem?_set_self hi] at hj
    cases hj
    exact at_sam v (hx i xs[i] (List.getElem?_eq_getElem hi))
  · rw [List.getElem?_set_ne e] at hj
    exact (at_oth _ _ _ _ _ e).trans (hx j u hj)
theorem RowC.below {W W' : World} {g : Nat} {xs : List Value} (h : RowC W g xs) (hb : Below W.heap.size W W') : RowC W' g xs := by
  obtain ⟨⟨cur, hc⟩, hx⟩ := h
  have lt : g < W.heap.size := by
    rcases Nat.lt_or_ge g W.heap.size with h' | h'
    · exact h'
    · rw [Array.getElem?_eq_none h'] at hc; cases hc
  exact ⟨⟨cur, (hb.block g lt).trans hc⟩, fun j u hj => later' hb (hx j u hj)⟩
theorem RowC.cut {W : World} {g : Nat} {xs ys : List Value} (h : RowC W g (xs ++ ys)) (j : Nat) (u : Value) (hj : ys[j]? = some u) : W.cell? ⟨g, xs.length + j, none⟩ = some u := h.2 _ u (by rw [List.getElem?_append_right (by omega)]; simpa using hj)
theorem RowC.unfrozen {W : World} {g j : Nat} {xs : List Value} (h : RowC W g xs) : W.frozen? ⟨g, j, none⟩ = false := by
  obtain ⟨⟨cur, hc⟩, -⟩ := h
  simp [World.frozen?, hc]
theorem al_heap (W : World) (o : Obj) (k : Nat) : (W.alloc o).heap[k]? = if k = W.heap.size then some o else W.heap[k]? := by
  show (W.heap.push o)[k]? = _
  rw [Array.getElem?_push]
theorem dr_heap (W : World) (k : Nat) : W.drew.heap[k]? = W.heap[k]? := rfl
theorem al_size (W : World) (o : Obj) : (W.alloc o).heap.size = W.heap.size + 1 := by simp
theorem al10 (W : World) (a : Obj) : (W.alloc a).drew.heap[W.heap.size]? = some a := by
  simp only [dr_heap, al_heap]
  repeat first
    | rw [if_pos trivial]
    | rw [if_pos (by omega)]
    | rw [if_neg (by omega)]
theorem al20 (W : World) (a b : Obj) : ((W.alloc a).alloc b).drew.heap[W.heap.size]? = some a := by
  simp only [dr_heap, al_heap, al_size]
  repeat first
    | rw [if_pos trivial]
    | rw [if_pos (by omega)]
    | rw [if_neg (by omega)]
theorem al21 (W : World) (a b : Obj) : ((W.alloc a).alloc b).drew.heap[W.heap.size + 1]? = some b := by
  simp only [dr_heap, al_heap, al_size]
  repeat first
    | rw [if_pos trivial]
    | rw [if_pos (by omega)]
    | rw [if_neg (by omega)]
theorem al30 (W : World) (a b c : Obj) : (((W.alloc a).alloc b).alloc c).drew.heap[W.heap.size]? = some a := by
  simp only [dr_heap, al_heap, al_size]
  repeat first
    | rw [if_pos trivial]
    | rw [if_pos (by omega)]
    | rw [if_neg (by omega)]
theorem al31 (W : World) (a b c : Obj) : (((W.alloc a).alloc b).alloc c).drew.heap[W.heap.size + 1]? = some b := by
  simp only [dr_heap, al_heap, al_size]
  repeat first
    | rw [if_pos trivial]
    | rw [if_pos (by omega)]
    | rw [if_neg (by omega)]
theorem al32 (W : World) (a b c : Obj) : (((W.alloc a).alloc b).alloc c).drew.heap[W.heap.size + 2]? = some c := by
  simp only [dr_heap, al_heap, al_size]
  repeat first
    | rw [if_pos trivial]
    | rw [if_pos (by omega)]
    | rw [if_neg (by omega)]
theorem own_nil {W : World} {base X : Nat} (h : W.heap[X]? = some (.cells #[] 48 (0, 0))) (hb : base ≤ X) : W.ownsRow base 48 10 (.slice (some ⟨X, 0, none⟩) 0 0) 0 [] :=
  ⟨rfl, Or.inr ⟨X, 0, #[], rfl, hb, h, Nat.le_refl _, Nat.zero_le _, rfl, rfl⟩⟩
theorem row_news {W w0 W5 : World} {K : Nat → Prop} {g1 o1 n c : Nat} {xs : List Value} (h : RowAt w0 K 48 10 (.slice (some ⟨g1, o1, none⟩) n c) n xs) (hn : 0 < n) (h1 : Below w0.heap.size w0 W5) (h2 : Below W5.heap.size W5 W) : ∀ j u, xs[j]? = some u → W.cell? ((⟨g1, o1, none⟩ : Addr).add j) = some u := fun j u hj => by
  obtain ⟨g, o, e, -, -, -, hx⟩ := h.at hn
  cases e
  rw [addr_add]
  exact later' h2 (later' h1 (hx j u hj))
theorem RowC.over {W : World} {g L : Nat} {xs : List Value} {o0 o1 o2 o3 o4 o5 o6 o7 o8 o9 : Value} (h : RowC W g (xs ++ [o0, o1, o2, o3, o4, o5, o6, o7, o8, o9])) (hL : xs.length = L) (v0 v1 v2 v3 v4 v5 v6 v7 v8 v9 : Value) :
    RowC ((((((((((W.setCell ⟨g, L, none⟩ v0).setCell ⟨g, L + 1, none⟩ v1).setCell ⟨g, L + 2, none⟩ v2).setCell ⟨g, L + 3, none⟩ v3).setCell ⟨g, L + 4, none⟩ v4).setCell ⟨g, L + 5, none⟩ v5).setCell ⟨g, L + 6, none⟩ v6).setCell ⟨g, L + 7, none⟩ v7).setCell ⟨g, L + 8, none⟩ v8).setCell ⟨g, L + 9, none⟩ v9) g (xs ++ [v0, v1, v2, v3, v4, v5, v6, v7, v8, v9]) := by
  subst hL
  have k := (((((((((h.set xs.length (by simp) v0).set (xs.length + 1) (by simp) v1).set (xs.length + 2) (by simp) v2).set (xs.length + 3) (by simp) v3).set (xs.length + 4) (by simp) v4).set (xs.length + 5) (by simp) v5).set (xs.length + 6) (by simp) v6).set (xs.length + 7) (by simp) v7).set (xs.length + 8) (by simp) v8).set (xs.length + 9) (by simp) v9
  have e : ((((((((((xs ++ [o0, o1, o2, o3, o4, o5, o6, o7, o8, o9]).set xs.length v0).set (xs.length + 1) v1).set (xs.length + 2) v2).set (xs.length + 3) v3).set (xs.length + 4) v4).set (xs.length + 5) v5).set (xs.length + 6) v6).set (xs.length + 7) v7).set (xs.length + 8) v8).set (xs.length + 9) v9 = xs ++ [v0, v1, v2, v3, v4, v5, v6, v7, v8, v9] := by
    have s : ∀ (ys : List Value) (i : Nat) (v : Value), (xs ++ ys).set (xs.length + i) v = xs ++ ys.set i v := fun ys i v => by
      rw [List.set_append, if_neg (by omega), Nat.add_sub_cancel_left]
    have s0 : ∀ (ys : List Value) (v : Value), (xs ++ ys).set xs.length v = xs ++ ys.set 0 v := fun ys v => s ys 0 v
    rw [s0, s, s, s, s, s, s, s, s, s]
    rfl
  rw [e] at k
  exact k
theorem more_check (m : Md) (hm : MdOk m) (hw : m.1.length + (m.2.length + sumN nB m.2) ≤ 4096) (b0 : Nat) (ps : List Nm) (n : Nm) (hps : Nms ps) (hn : NmOk n) (hpl : ps.length ≤ 2) (ad : Option Addr) (cd : Nat) (xb : List Value) (g c : Nat) (p : Value) (w0 W : World)
    (hd : RowAt w0 (fun k => k < b0) 36 2 (.slice ad m.1.length cd) m.1.length (declV m.1)) (ht : BndsAt w0 (fun k => k < b0) m.2 xb) (hk : ∀ k, k < b0 → k < w0.heap.size → W.heap[k]? = w0.heap[k]?)
    (hr : RowC W g (xb ++ lastC p (.string (tx n)))) (h1 : m.2.length + 1 ≤ c) (h2 : c ≤ maxLen) (hp : RowAt W (fun _ => True) 9 1 p ps.length (namesV ps)) (hE : ErrT W) :
    Calls Tryd.prog 11 #[.agg #[.slice ad m.1.length cd, .slice (some ⟨g, 0, none⟩) (m.2.length + 1) c]] W fun e w' => e = .returned (.tuple #[.int .i64 (stN (scM (m.1, m.2 ++ [(q0L, ps, .leaf 1 n)]))).1, .string (tx (stN (scM (m.1, m.2 ++ [(q0L, ps, .leaf 1 n)]))).2)]) ∧ Below W.heap.size W w' := by
  have hmv : ∀ k, k < b0 → k < w0.heap.size → True ∧ W.heap[k]? = w0.heap[k]? := fun k h1 h2 => ⟨trivial, hk k h1 h2⟩
  have hB := (ht.move (K' := fun _ => True) hmv).append (last_at W (fun _ => True) (n := n) hp)
  have hM : ModAt W (fun _ => True) (m.1, m.2 ++ [(q0L, ps, .leaf 1 n)]) ad cd (some ⟨g, 0, none⟩) c := by
    refine ⟨hd.move hmv, _, ?_, hB⟩
    have := hr.row (K := fun _ => True) (n := m.2.length + 1) trivial (by rw [List.length_append, ht.len]; simp [lastC]; omega) h1 h2
    simpa using this
  have hwl : nB (q0L, ps, .leaf 1 n) ≤ 4 := by
    have := leaf_wt 1 n
    show 1 + ps.length + wtE (.leaf 1 n) ≤ 4
    omega
  have h := check_any (m.1, m.2 ++ [(q0L, ps, .leaf 1 n)]) (hm.snoc _ (one_wB hps hn) (by omega)) ad cd (some ⟨g, 0, none⟩) c _ W hM hE
  rw [show ((m.1, m.2 ++ [(q0L, ps, .leaf 1 n)]) : Md).2.length = m.2.length + 1 by simp] at h
  exact h
theorem bl1 (W : World) (a : Obj) : Below W.heap.size W (W.alloc a).drew := (Br.alloc (by simp) _).drew
theorem bl2 (W : World) (a b : Obj) : Below W.heap.size W ((W.alloc a).alloc b).drew := ((Br.alloc (by simp) _).alloc (by simp) _).drew
theorem bl3 (W : World) (a b c : Obj) : Below W.heap.size W (((W.alloc a).alloc b).alloc c).drew := (((Br.alloc (by simp) _).alloc (by simp) _).alloc (by simp; omega) _).drew
theorem be1 (W : World) (a : Obj) : Below W.heap.size W (W.alloc a) := Br.alloc (by simp) _
theorem be2 (W : World) (a b : Obj) : Below W.heap.size W ((W.alloc a).alloc b) := (Br.alloc (by simp) _).alloc (by simp) _
theorem grow5 {W5 Wc w6 : World} {X : Nat} (hb : Below W5.heap.size W5 Wc) (hg : Wc.grownBy w6 (some X)) (hX : W5.heap.size ≤ X) : Below W5.heap.size W5 w6 := below_of_new hb hg hX
theorem gw1 {W w6 : World} {a : Obj} (h : (W.alloc a).drew.grownBy w6 (some W.heap.size)) : Below W.heap.size W w6 := grow5 (bl1 _ _) h Nr
theorem g21 {W w6 : World} {a b : Obj} (h : ((W.alloc a).alloc b).drew.grownBy w6 (some W.heap.size)) : w6.heap[W.heap.size + 1]? = some b ∧ Below W.heap.size W w6 :=
  ⟨(h.block _ (show W.heap.size + 1 < ((W.alloc a).alloc b).heap.size by simp) (by simp)).trans (al21 _ _ _), grow5 (bl2 _ _ _) h Nr⟩
theorem g20 {W w6 : World} {a b : Obj} (h : ((W.alloc a).alloc b).drew.grownBy w6 (some (W.heap.size + 1))) : w6.heap[W.heap.size]? = some a ∧ Below W.heap.size W w6 :=
  ⟨(h.block _ (show W.heap.size < ((W.alloc a).alloc b).heap.size by simp; try omega) (by simp)).trans (al20 _ _ _), grow5 (bl2 _ _ _) h (by omega)⟩
theorem g312 {W w6 : World} {a b c : Obj} (h : (((W.alloc a).alloc b).alloc c).drew.grownBy w6 (some W.heap.size)) : w6.heap[W.heap.size + 1]? = some b ∧ w6.heap[W.heap.size + 2]? = some c ∧ Below W.heap.size W w6 :=
  ⟨(h.block _ (show W.heap.size + 1 < (((W.alloc a).alloc b).alloc c).heap.size by simp; try omega) (by simp)).trans (al31 _ _ _ _), (h.block _ (show W.heap.size + 2 < (((W.alloc a).alloc b).alloc c).heap.size by simp) (by simp)).trans (al32 _ _ _ _), grow5 (bl3 _ _ _ _) h Nr⟩
theorem g302 {W w6 : World} {a b c : Obj} (h : (((W.alloc a).alloc b).alloc c).drew.grownBy w6 (some (W.heap.size + 1))) : w6.heap[W.heap.size]? = some a ∧ w6.heap[W.heap.size + 2]? = some c ∧ Below W.heap.size W w6 :=
  ⟨(h.block _ (show W.heap.size < (((W.alloc a).alloc b).alloc c).heap.size by simp; try omega) (by simp)).trans (al30 _ _ _ _), (h.block _ (show W.heap.size + 2 < (((W.alloc a).alloc b).alloc c).heap.size by simp) (by simp)).trans (al32 _ _ _ _), grow5 (bl3 _ _ _ _) h (by omega)⟩
theorem g301 {W w6 : World} {a b c : Obj} (h : (((W.alloc a).alloc b).alloc c).drew.grownBy w6 (some (W.heap.size + 2))) : w6.heap[W.heap.size]? = some a ∧ w6.heap[W.heap.size + 1]? = some b ∧ Below W.heap.size W w6 :=
  ⟨(h.block _ (show W.heap.size < (((W.alloc a).alloc b).alloc c).heap.size by simp; try omega) (by simp)).trans (al30 _ _ _ _), (h.block _ (show W.heap.size + 1 < (((W.alloc a).alloc b).alloc c).heap.size by simp; try omega) (by simp)).trans (al31 _ _ _ _), grow5 (bl3 _ _ _ _) h (by omega)⟩
theorem hp_lt {W : World} {k : Nat} {o : Obj} (h : W.heap[k]? = some o) : k < W.heap.size := by
  rcases Nat.lt_or_ge k W.heap.size with h' | h'
  · exact h'
  · rw [Array.getElem?_eq_none h'] at h; cases h
theorem last_one (p n : Value) (hp : p.oneCell' = true) (hn : n.oneCell' = true) : ∀ u ∈ lastC p n, u.oneCell' = true := by
  intro u hu
  simp only [lastC, List.mem_cons, List.not_mem_nil, or_false] at hu
  rcases hu with rfl | rfl | rfl | rfl | rfl | rfl | rfl | rfl | rfl | rfl <;> first | rfl | assumption
structure FreeAt (W5 W : World) (g c P L : Nat) (xb : List Value) (n : Nm) : Prop where
  row : RowC W g (xb ++ lastC (.slice (some ⟨P, 0, none⟩) 1 1) (.string (tx n)))
  len : L + 1 ≤ c
  cap : c ≤ maxLen
  low : W5.heap.size ≤ g
  one : W.heap[P]? = some (.cells #[.string (tx n)] 9 (0, 0))
  bel : Below W5.heap.size W5 W
  ne : P ≠ g
theorem RowC.ne {W : World} {g P : Nat} {xs : List Value} {cs : Array Value} (h : RowC W g xs) (hP : W.heap[P]? = some (.cells cs 9 (0, 0))) : P ≠ g := by
  obtain ⟨⟨cur, hc⟩, -⟩ := h
  intro e
  rw [e, hc] at hP
  cases hP
theorem free_at {W5 Wd w8 : World} {g6 c6 g8 c8 P L : Nat} {xb : List Value} {n : Nm} (hb : Below W5.heap.size W5 Wd) (hPd : Wd.heap[P]? = some (.cells #[.string (tx n)] 9 (0, 0))) (hL : 0 < L)
    (o6 : Wd.ownsRow W5.heap.size 48 10 (.slice (some ⟨g6, 0, none⟩) L c6) L xb) (gr8 : Wd.grownBy w8 (some g6)) (o8 : w8.ownsRow W5.heap.size 48 10 (.slice (some ⟨g8, 0, none⟩) (L + 1) c8) (L + 1) (xb ++ lastC (.slice (some ⟨P, 0, none⟩) 1 1) (.string (tx n)))) :
    FreeAt W5 w8 g8 c8 P L xb n := by
  obtain ⟨g, e, h1, h2, h3, h4, h5⟩ := RowC.of o6 hL
  cases e
  obtain ⟨g', e, k1, k2, k3, k4, k5⟩ := RowC.of o8 (by omega)
  cases e
  have ne := h5.ne hPd
  have lt : P < Wd.heap.size := by
    rcases Nat.lt_or_ge P Wd.heap.size with h' | h'
    · exact h'
    · rw [Array.getElem?_eq_none h'] at hPd; cases hPd
  have hP8 := (gr8.block P lt (by simpa using ne)).trans hPd
  exact ⟨k5, k3, k4, k1, hP8, below_of_new hb gr8 h1, k5.ne hP8⟩
end Go.Proofs.YtdjcdecbmeickaaDoor
namespace Go.Proofs.YtdjcdecbmeickaaDoor
set_option maxHeartbeats 64000000
set_option maxRecDepth 100000
open Go.RowKit Go.Lib
theorem RowC.grown {W W' : World} {g b : Nat} {xs : List Value} (h : RowC W g xs) (hg : W.grownBy W' (some b)) (hb : g ≠ b) : RowC W' g xs := by
  obtain ⟨⟨cur, hc⟩, hx⟩ := h
  have lt := hp_lt hc
  have e := hg.block g lt (by simpa using hb)
  exact ⟨⟨cur, e.trans hc⟩, fun j u hj => (World.cell?_of_block (a := ⟨g, j, none⟩) e).trans (hx j u hj)⟩
structure FreeW (w3 W : World) (b0 mb vb nb : Nat) (md nd : List Value) (nm : Nm) : Prop where
  keep : ∀ k, k < b0 → k < w3.heap.size → W.heap[k]? = w3.heap[k]?
  mbox : BoxW W mb md
  vbox : BoxW W vb [.int .i64 1, .string (tx nm), .bool false, .int .u64 0, .slice none 0 0, .slice none 0 0, .slice none 0 0, .slice none 0 0]
  nbox : BoxW W nb nd
  err : ErrT W
theorem FreeW.grown {w3 W W' : World} {b0 mb vb nb g : Nat} {a b c d : Value} {md nd : List Value} {nm : Nm} (h : FreeW w3 W b0 mb vb nb (a :: b :: md) (c :: d :: nd) nm) (hg : W.grownBy W' (some g)) (h0 : b0 ≤ W.heap.size) (h1 : b0 ≤ g) (h2 : mb ≠ g) (h3 : vb ≠ g) (h4 : nb ≠ g) (h5 : 0 ≠ g) : FreeW w3 W' b0 mb vb nb (a :: b :: md) (c :: d :: nd) nm :=
  ⟨fun k hk hl => (hg.block k (by omega) (by simp; omega)).trans (h.keep k hk hl), h.mbox.grown hg h2, h.vbox.grown hg h3, h.nbox.grown hg h4, by
    have := h.err
    unfold ErrT at this ⊢
    rw [hg.cell_far _ (Bl this) (by simpa using h5)]
    exact this⟩
theorem FreeW.below {w3 W W' : World} {b0 mb vb nb : Nat} {a b c d : Value} {md nd : List Value} {nm : Nm} (h : FreeW w3 W b0 mb vb nb (a :: b :: md) (c :: d :: nd) nm) (hb : Below W.heap.size W W') (h0 : b0 ≤ W.heap.size) : FreeW w3 W' b0 mb vb nb (a :: b :: md) (c :: d :: nd) nm :=
  ⟨fun k hk hl => (hb.block k (by omega)).trans (h.keep k hk hl), h.mbox.below hb, h.vbox.below hb, h.nbox.below hb, h.err.below hb⟩
theorem ones_row {W : World} {P n : Nat} {ps : List Nm} (h : W.heap[P]? = some (.cells (ps.map fun x => .string (tx x)).toArray 9 (0, 0))) (hn : ps.length = n) (hm : n ≤ maxLen) : RowAt W (fun _ => True) 9 1 (.slice (some ⟨P, 0, none⟩) n n) ps.length (namesV ps) := by
  subst hn
  refine ⟨by simp [namesV], Or.inr ⟨P, 0, ps.length, _, rfl, trivial, h, Nat.le_refl _, hm, fun j u hj => ?_⟩⟩
  rw [Nat.zero_add, cell_of_row W P j _ _ _ h]
  simpa [namesV] using hj
theorem free_state {w3 W4 W5 w8 : World} {b0 mb g c P L : Nat} {xb : List Value} {nm : Nm} {a b d : Value} (hF : FreeAt W5 w8 g c P L xb nm) (h35 : Below w3.heap.size w3 W5) (hm : BoxW W5 mb [a, b]) (hv : BoxW W5 w3.heap.size [.int .i64 1, .string (tx nm), .bool false, .int .u64 0, .slice none 0 0, .slice none 0 0, .slice none 0 0, .slice none 0 0])
    (hn : BoxW W5 W4.heap.size [a, d]) (hE : ErrT w3) (h0 : b0 ≤ mb) (h1 : mb < w3.heap.size) (h2 : w3.heap.size < W4.heap.size) (h3 : W4.heap.size < W5.heap.size) (v : Value) :
    FreeW w3 (w8.setCell ⟨W4.heap.size, 1, none⟩ v) b0 mb w3.heap.size W4.heap.size [a, b] [a, v] nm ∧ RowC (w8.setCell ⟨W4.heap.size, 1, none⟩ v) g (xb ++ lastC (.slice (some ⟨P, 0, none⟩) 1 1) (.string (tx nm))) ∧ (w8.setCell ⟨W4.heap.size, 1, none⟩ v).heap[P]? = some (.cells #[.string (tx nm)] 9 (0, 0)) := by
  have hs := set_grown w8 W4.heap.size 1 v
  have hP : P ≠ W4.heap.size := fun e => by
    have := (hn.below hF.bel).1 1 _ rfl
    rw [← e, cell_of_row w8 P 1 _ _ _ hF.one] at this
    simp at this
  refine ⟨⟨fun k hk hl => ?_, ?_, ?_, ?_, ?_⟩, hF.row.grown hs (by have := hF.low; omega), ?_⟩
  · rw [hs.block k (by have := hF.bel.size; omega) (by simp; omega), hF.bel.block k (by omega), h35.block k hl]
  · exact (hm.below hF.bel).grown hs (by omega)
  · exact (hv.below hF.bel).grown hs (by omega)
  · exact (hn.below hF.bel).set 1 (by simp) v
  · have hE8 : ErrT w8 := (hE.below h35).below hF.bel
    have lt := Bl hE
    unfold ErrT at hE8 ⊢
    rw [hs.cell_far _ (Bl hE8) (by simp at lt ⊢; omega)]
    exact hE8
  · rw [hs.block P (hp_lt hF.one) (by simpa using hP)]
    exact hF.one
theorem over_set {W : World} {g L : Nat} {xs : List Value} {o0 o1 o2 o3 o4 o5 o6 o7 o8 o9 : Value} (h : RowC W g (xs ++ [o0, o1, o2, o3, o4, o5, o6, o7, o8, o9])) (hL : xs.length = L) (v0 v1 v2 v3 v4 v5 v6 v7 v8 v9 : Value) :
    RowC ((((((((((W.setCell ⟨g, L, none⟩ v0).setCell ⟨g, L + 1, none⟩ v1).setCell ⟨g, L + 2, none⟩ v2).setCell ⟨g, L + 3, none⟩ v3).setCell ⟨g, L + 4, none⟩ v4).setCell ⟨g, L + 5, none⟩ v5).setCell ⟨g, L + 6, none⟩ v6).setCell ⟨g, L + 7, none⟩ v7).setCell ⟨g, L + 8, none⟩ v8).setCell ⟨g, L + 9, none⟩ v9) g (xs ++ [v0, v1, v2, v3, v4, v5, v6, v7, v8, v9]) ∧ W.grownBy ((((((((((W.setCell ⟨g, L, none⟩ v0).setCell ⟨g, L + 1, none⟩ v1).setCell ⟨g, L + 2, none⟩ v2).setCell ⟨g, L + 3, none⟩ v3).setCell ⟨g, L + 4, none⟩ v4).setCell ⟨g, L + 5, none⟩ v5).setCell ⟨g, L + 6, none⟩ v6).setCell ⟨g, L + 7, none⟩ v7).setCell ⟨g, L + 8, none⟩ v8).setCell ⟨g, L + 9, none⟩ v9) (some g) ∧ ((((((((((W.setCell ⟨g, L, none⟩ v0).setCell ⟨g, L + 1, none⟩ v1).setCell ⟨g, L + 2, none⟩ v2).setCell ⟨g, L + 3, none⟩ v3).setCell ⟨g, L + 4, none⟩ v4).setCell ⟨g, L + 5, none⟩ v5).setCell ⟨g, L + 6, none⟩ v6).setCell ⟨g, L + 7, none⟩ v7).setCell ⟨g, L + 8, none⟩ v8).setCell ⟨g, L + 9, none⟩ v9).heap.size = W.heap.size :=
  ⟨h.over hL v0 v1 v2 v3 v4 v5 v6 v7 v8 v9, (Gt (Gt (Gt (Gt (Gt (Gt (Gt (Gt (Gt (set_grown ..) (set_grown ..)) (set_grown ..)) (set_grown ..)) (set_grown ..)) (set_grown ..)) (set_grown ..)) (set_grown ..)) (set_grown ..)) (set_grown ..)), by simp⟩
theorem any_succ (bs : List Bnd) (j : Nat) (h : j < bs.length) : ((bs.take (j + 1)).any fun b => b.1 == q1L) = (((bs.take j).any fun b => b.1 == q1L) || (bs[j].1 == q1L)) := by
  rw [List.take_succ_eq_append_getElem h, List.any_append]
  simp
theorem any_all (bs : List Bnd) : ((bs.take bs.length).any fun b => b.1 == q1L) = decide (q1L ∈ bNames bs) := by
  rw [List.take_length]
  by_cases g : q1L ∈ bNames bs
  · rw [decide_eq_true g, List.any_eq_true]
    obtain ⟨b, hb, e⟩ := List.mem_map.1 g
    exact ⟨b, hb, by rw [e]; exact beq_self_eq_true _⟩
  · rw [decide_eq_false g, List.any_eq_false]
    intro b hb e
    exact g (List.mem_map.2 ⟨b, hb, by simpa using e⟩)
end Go.Proofs.YtdjcdecbmeickaaDoor
namespace Go.Proofs.YtdjcdecbmeickaaDoor
set_option maxHeartbeats 64000000
set_option maxRecDepth 100000
open Go.RowKit Go.Lib
theorem sfree_walk (s : ByteArray) (t : Int) (w : World) (hE : ErrT w) :
    Calls Tryd.prog 5 #[.string s, .int .i64 t] w fun e w' => e = .returned (.bool true) ∧ Below w.heap.size w w' := by
  have HE0 := Hd hE
  clear hE
  go_enter Tryd.func5, Tryd.ntmps5
  go_wp2_with fail
  refine (sawake_any w HE0.out).mono ?_
  rintro e w1 ⟨rfl, hb⟩
  have H1 := Hd (Ai hb (HE0.out.below hb))
  clear hb
  by_cases g3 : 3000 < s.size
  · have f3 : decide ((3000 : Int) < (s.size : Int)) = true := decide_eq_true (by omega)
    go_wp2_with fail
    go_ret
    exact ⟨rfl, H1.out.1⟩
  have f3 : decide ((3000 : Int) < (s.size : Int)) = false := decide_eq_false (by omega)
  have HP := Hd (told_any s (by omega) w1)
  have hsl : s.data.toList.length ≤ 100000 := by
    have := size_eq s
    omega
  go_wp2_with fail
  clear f3
  refine HP.out.mono ?_
  rintro e w2 ⟨hv, hb2⟩
  have HV := Hd (Ai hv (onB' H1.out.1 hb2))
  clear hb2 hv HP
  cases ho : modL s.data.toList with
  | bad er ln =>
    have hv := HV.out.1
    rw [ho] at hv
    obtain ⟨hne, rfl⟩ := hv
    have f4 : (er != 0) = true := by simpa using hne
    have hx := Hd (onB' HV.out.2 ((Below.refl w2.heap.size w2).alloc Nr (.cells #[.slice none 0 0, .slice none 0 0] 26)))
    go_wp2_with fail
    go_ret
    exact ⟨rfl, hx.out⟩
  | ok md la ra =>
    have hv := HV.out.1
    rw [ho] at hv
    obtain ⟨ad, cd, ab, cb, rfl, hm⟩ := hv
    have hok := modL_ok hsl ho
    have hx := (Below.refl w2.heap.size w2).alloc Nr (.cells #[.slice ad md.1.length cd, .slice ab md.2.length cb] 26)
    have hw1x := HV.out.2
    have HEW := Hd (show ErrT (w2.alloc (.cells #[.slice ad md.1.length cd, .slice ab md.2.length cb] 26)) from HE0.out.below (onB' HV.out.2 hx))
    have HX := Hd (Ai (onB' HV.out.2 hx) (Ai (BoxW.alloc w2 #[.slice ad md.1.length cd, .slice ab md.2.length cb] 26) (hm.below hx)))
    have HK := Hd hok
    clear hm hx hok hsl
    by_cases gt0 : t < 0
    · have f5 : decide (t < 0) = true := decide_eq_true gt0
      go_wp2_with fail
      go_ret
      exact ⟨rfl, HX.out.1⟩
    obtain ⟨n, rfl⟩ : ∃ n : Nat, t = (n : Int) := ⟨t.toNat, by omega⟩
    have f5 : decide ((n : Int) < 0) = false := decide_eq_false gt0
    by_cases gtl : n < md.2.length
    · have f6 : decide ((md.2.length : Int) ≤ (n : Int)) = false := decide_eq_false (by omega)
      go_upto_region 8 with fail
      generalize (w2.alloc (.cells #[.slice ad md.1.length cd, .slice ab md.2.length cb] 26)) = W at *
      clear hw1x
      have HC := Hd (check_any md HK.out.1 ad cd ab cb _ W HX.out.2.2 HEW.out)
      have y0 : W.cell? ⟨w2.heap.size, 0, none⟩ = some (.slice ad md.1.length cd) := HX.out.2.1.1 0 _ rfl
      have y1 : W.cell? ⟨w2.heap.size, 1, none⟩ = some (.slice ab md.2.length cb) := HX.out.2.1.1 1 _ rfl
      go_wp2_with fail
      refine HC.out.mono ?_
      rintro e w3 ⟨rfl, hb3⟩
      have H3 := Hd (Ai (HX.out.2.1.below hb3) (Ai (HX.out.2.2.below hb3) (Ai (onB' HX.out.1 hb3) (HEW.out.below hb3))))
      clear hb3 HC y0 y1
      have HSm := Hd (modL_small ho)
      have x0 : w3.cell? ⟨w2.heap.size, 0, none⟩ = some (.slice ad md.1.length cd) := H3.out.1.1 0 _ rfl
      have x1 : w3.cell? ⟨w2.heap.size, 1, none⟩ = some (.slice ab md.2.length cb) := H3.out.1.1 1 _ rfl
      cases hsc : scM md with
      | some fo =>
        have hne := (FoOk.of HK.out.1 fo.1 fo.2 hsc).1
        have f7 : (fo.1 != 0) = true := by simpa using hne
        obtain ⟨f1, f2⟩ := fo
        unfold stN
        go_wp2_with fail
        go_ret
        exact ⟨rfl, H3.out.2.2.1⟩
      | none =>
        have HSc := Hd hsc
        clear hsc
        unfold stN
        obtain ⟨xb, hbr, hbt⟩ := H3.out.2.1.br
        have HBx := Hd (Ai hbr hbt)
        clear hbr hbt
        go_wp2_with fail
        go_loop [10] (fun s10 => ∃ j : Nat, j ≤ md.2.length ∧ s10 = .int .i64 j ∧ ∀ i (h : i < md.2.length), i < j → md.2[i].1 ≠ q0L) (fun s10 => md.2.length - (RowKit.intOf s10).toNat)
        case atStart => exact ⟨0, Nat.zero_le _, rfl, fun i h hi => by omega⟩
        case round =>
          obtain ⟨j, hj, rfl, hq⟩ := hrel
          have HQ := Hd hq
          clear hq
          by_cases gj : j < md.2.length
          · have gj' : (j : Int) < (md.2.length : Int) := by omega
            have hsm := HSm.out
            have ej : IntKind.i64.wrap ((j : Int) + 1) = (j : Int) + 1 := by rw [IntKind.wrap_i64]; omega
            obtain ⟨g1, o1, ea1, k1, m1', -, ht1⟩ := HBx.out.1.at (by omega)
            subst ea1
            obtain ⟨aq, cq, k, nm, f, u, ap, np, cp, ak, nk, ck, ab2, nb, cb2, aa, na, ca, -, -, hz⟩ := HBx.out.2.cells j gj
            have p0 : w3.cell? ⟨g1, o1 + j * 10, none⟩ = some (.string (tx md.2[j].1)) := ht1 _ _ (hz 0 _ rfl)
            clear hz ht1
            have b0 : (0 : Int) ≤ (j : Int) := by omega
            clear hsm
            generalize hnm : md.2[j].1 = nm0 at *
            cases hqb : ((tx nm0).toList == [113, 48]) with
            | true =>
              go_wp2_with fail
              go_ret
              exact ⟨rfl, H3.out.2.2.1⟩
            | false =>
              have HNq := Hd (tx_q0 hqb)
              go_wp2_with fail
              refine ⟨⟨j + 1, by omega, by go_num, fun i h hi => ?_⟩, by simp [RowKit.intOf]; omega⟩
              by_cases e : i = j
              · subst e; rw [hnm]; exact HNq.out
              · exact HQ.out i h (by omega)
          · obtain rfl : j = md.2.length := by omega
            have HNo := Hd (no_q0 HQ.out)
            obtain ⟨g1, o1, ea1, k1, m1', hkg, ht1⟩ := HBx.out.1.at (by omega)
            subst ea1
            obtain ⟨aq, cq, k, nm, f, u, ap, np, cp, ak, nk, ck, ab2, nb, cb2, aa, na, ca, -, -, hz⟩ := HBx.out.2.cells n gtl
            have p0 : w3.cell? ⟨g1, o1 + n * 10, none⟩ = some (.string (tx md.2[n].1)) := ht1 _ _ (hz 0 _ rfl)
            clear hz ht1 HQ
            have HNm := Hd (Ai (HK.out.1.wb md.2[n] (List.getElem_mem gtl)).1 (show md.2[n].1 ∈ bNames md.2 from List.mem_map.2 ⟨_, List.getElem_mem gtl, rfl⟩))
            generalize hnm : md.2[n].1 = nm0 at *
            have hn' : (n : Int) < (md.2.length : Int) := by omega
            have hn0 : (0 : Int) ≤ (n : Int) := by omega
            have HGl := Hd (show 0 < w3.heap.size from Bl H3.out.2.2.2)
            have HV4 := Hd (Ai ((Below.refl w3.heap.size w3).alloc Nr (.cells #[.int .i64 1, .string (tx nm0), .bool false, .int .u64 0, .slice none 0 0, .slice none 0 0, .slice none 0 0, .slice none 0 0] 46)) (BoxW.alloc w3 #[.int .i64 1, .string (tx nm0), .bool false, .int .u64 0, .slice none 0 0, .slice none 0 0, .slice none 0 0, .slice none 0 0] 46))
            have hlt2 : w2.heap.size < w3.heap.size := Bl x1
            go_upto_region 18 with fail
            generalize (w3.alloc (.cells #[.int .i64 1, .string (tx nm0), .bool false, .int .u64 0, .slice none 0 0, .slice none 0 0, .slice none 0 0, .slice none 0 0] 46)) = W4 at *
            have y0 : W4.cell? ⟨w2.heap.size, 0, none⟩ = some (.slice ad md.1.length cd) := later' HV4.out.1 x0
            have y1 : W4.cell? ⟨w2.heap.size, 1, none⟩ = some (.slice (some ⟨g1, o1, none⟩) md.2.length cb) := later' HV4.out.1 x1
            have hlt3 : w3.heap.size < W4.heap.size := Bl (HV4.out.2.1 0 _ rfl)
            have HV5 := Hd (Ai ((Below.refl W4.heap.size W4).alloc Nr (.cells #[.slice ad md.1.length cd, .slice (some ⟨g1, o1, none⟩) md.2.length cb] 26)) (BoxW.alloc W4 #[.slice ad md.1.length cd, .slice (some ⟨g1, o1, none⟩) md.2.length cb] 26))
            clear x0 x1 p0
            go_upto_region 19 with fail
            generalize (W4.alloc (.cells #[.slice ad md.1.length cd, .slice (some ⟨g1, o1, none⟩) md.2.length cb] 26)) = W5 at *
            have d1 : W5.cell? ⟨w2.heap.size, 1, none⟩ = some (.slice (some ⟨g1, o1, none⟩) md.2.length cb) := later' HV5.out.1 y1
            have HB5 := Hd (HV4.out.2.below HV5.out.1)
            have v0 : W5.cell? ⟨w3.heap.size, 0, none⟩ = some (.int .i64 1) := HB5.out.1 0 _ rfl
            have v1 : W5.cell? ⟨w3.heap.size, 1, none⟩ = some (.string (tx nm0)) := HB5.out.1 1 _ rfl
            have v2 : W5.cell? ⟨w3.heap.size, 2, none⟩ = some (.bool false) := HB5.out.1 2 _ rfl
            have v3 : W5.cell? ⟨w3.heap.size, 3, none⟩ = some (.int .u64 0) := HB5.out.1 3 _ rfl
            have v4 : W5.cell? ⟨w3.heap.size, 4, none⟩ = some (.slice none 0 0) := HB5.out.1 4 _ rfl
            have v5 : W5.cell? ⟨w3.heap.size, 5, none⟩ = some (.slice none 0 0) := HB5.out.1 5 _ rfl
            have v6 : W5.cell? ⟨w3.heap.size, 6, none⟩ = some (.slice none 0 0) := HB5.out.1 6 _ rfl
            have v7 : W5.cell? ⟨w3.heap.size, 7, none⟩ = some (.slice none 0 0) := HB5.out.1 7 _ rfl
            have e1 : W5.cell? ⟨W4.heap.size, 1, none⟩ = some (.slice (some ⟨g1, o1, none⟩) md.2.length cb) := HV5.out.2.1 1 _ rfl
            have hlt4 : W4.heap.size < W5.heap.size := Bl e1
            clear y0 y1
            obtain ⟨i0, hi0, hz0, hzs, hzb⟩ := info_parts Tryd.info_bind
            have hsm := HSm.out
            have hlen0 : 0 < md.2.length := by omega
            have hxl := HBx.out.2.len
            have hone := HBx.out.2.one
            have h35 := onB' HV4.out.1 HV5.out.1
            have hq2 : w2.heap.size < W5.heap.size := by omega
            have hq3 : w3.heap.size < W5.heap.size := by omega
            have m5 : 0 + md.2.length ≤ maxLen := by unfold maxLen; omega
            have m6 : (0 + md.2.length) * 176 ≤ 140737488355328 := by omega
            have m7 : md.2.length + 1 ≤ maxLen := by unfold maxLen; omega
            have m8 : (md.2.length + 1) * 176 ≤ 140737488355328 := by omega
            have hD : Below W5.heap.size W5 W5.drew := Br.drew
            go_cut [13] (fun v wx => v = .pointer (some ⟨W4.heap.size, 0, none⟩) ∧ ∃ g c P, (FreeW w3 wx w2.heap.size w2.heap.size w3.heap.size W4.heap.size [.slice ad md.1.length cd, .slice (some ⟨g1, o1, none⟩) md.2.length cb] [.slice ad md.1.length cd, .slice (some ⟨g, 0, none⟩) (md.2.length + 1) c] nm0 ∧ RowC wx g (xb ++ lastC (.slice (some ⟨P, 0, none⟩) 1 1) (.string (tx nm0))) ∧ wx.heap[P]? = some (.cells #[.string (tx nm0)] 9 (0, 0))) ∧ md.2.length + 1 ≤ c ∧ c ≤ maxLen ∧ W5.heap.size ≤ g ∧ Below w.heap.size w wx)
            case first =>
              go_region_held3 (fun W' => W'.cell? ⟨w2.heap.size, 1, none⟩ = some (.slice (some ⟨g1, o1, none⟩) md.2.length cb) ∧ W'.cell? ⟨w3.heap.size, 0, none⟩ = some (.int .i64 1) ∧ W'.cell? ⟨w3.heap.size, 1, none⟩ = some (.string (tx nm0)) ∧ W'.cell? ⟨w3.heap.size, 2, none⟩ = some (.bool false) ∧ W'.cell? ⟨w3.heap.size, 3, none⟩ = some (.int .u64 0) ∧ W'.cell? ⟨w3.heap.size, 4, none⟩ = some (.slice none 0 0) ∧ W'.cell? ⟨w3.heap.size, 5, none⟩ = some (.slice none 0 0) ∧ W'.cell? ⟨w3.heap.size, 6, none⟩ = some (.slice none 0 0) ∧ W'.cell? ⟨w3.heap.size, 7, none⟩ = some (.slice none 0 0)) (first | exact ⟨n0, n1, n2, n3, n4, n5, n6, n7, n8⟩ | exact ⟨(at_far _ _ _ _ _ _ (by omega)).trans n0, (at_far _ _ _ _ _ _ (by omega)).trans n1, (at_far _ _ _ _ _ _ (by omega)).trans n2, (at_far _ _ _ _ _ _ (by omega)).trans n3, (at_far _ _ _ _ _ _ (by omega)).trans n4, (at_far _ _ _ _ _ _ (by omega)).trans n5, (at_far _ _ _ _ _ _ (by omega)).trans n6, (at_far _ _ _ _ _ _ (by omega)).trans n7, (at_far _ _ _ _ _ _ (by omega)).trans n8⟩ | exact ⟨k0, k1, k2, k3, k4, k5, k6, k7, k8⟩ | exact ⟨d1, v0, v1, v2, v3, v4, v5, v6, v7⟩ | exact ⟨later' (bl1 _ _) d1, later' (bl1 _ _) v0, later' (bl1 _ _) v1, later' (bl1 _ _) v2, later' (bl1 _ _) v3, later' (bl1 _ _) v4, later' (bl1 _ _) v5, later' (bl1 _ _) v6, later' (bl1 _ _) v7⟩ | exact ⟨later' (bl2 _ _ _) d1, later' (bl2 _ _ _) v0, later' (bl2 _ _ _) v1, later' (bl2 _ _ _) v2, later' (bl2 _ _ _) v3, later' (bl2 _ _ _) v4, later' (bl2 _ _ _) v5, later' (bl2 _ _ _) v6, later' (bl2 _ _ _) v7⟩ | exact ⟨later' (bl3 _ _ _ _) d1, later' (bl3 _ _ _ _) v0, later' (bl3 _ _ _ _) v1, later' (bl3 _ _ _ _) v2, later' (bl3 _ _ _ _) v3, later' (bl3 _ _ _ _) v4, later' (bl3 _ _ _ _) v5, later' (bl3 _ _ _ _) v6, later' (bl3 _ _ _ _) v7⟩ | exact ⟨later' (be1 _ _) k0, later' (be1 _ _) k1, later' (be1 _ _) k2, later' (be1 _ _) k3, later' (be1 _ _) k4, later' (be1 _ _) k5, later' (be1 _ _) k6, later' (be1 _ _) k7, later' (be1 _ _) k8⟩ | exact ⟨later' (be2 _ _ _) k0, later' (be2 _ _ _) k1, later' (be2 _ _ _) k2, later' (be2 _ _ _) k3, later' (be2 _ _ _) k4, later' (be2 _ _ _) k5, later' (be2 _ _ _) k6, later' (be2 _ _ _) k7, later' (be2 _ _ _) k8⟩ | go_keep) (first
                | (refine step_append_lies _ rfl _ _ 24 rfl W5.heap.size 48 i0 (.agg #[.string ⟨#[]⟩, .slice none 0 0, .int .i64 0, .string ⟨#[]⟩, .bool false, .int .u64 0, .slice none 0 0, .slice none 0 0, .slice none 0 0, .slice none 0 0]) 10 176 Tryd.underlying24 hi0 hz0 hzs hzb rfl (by decide) _ 0 [] rfl (own_nil ?hX ?hXb) ⟨g1, o1, none⟩ md.2.length cb xb rfl hxl (row_news HBx.out.1 hlen0 h35 ?hc) hone hlen0 m5 m6 ?hs _ rfl ?_
                   case hX => first | exact al10 _ _ | exact al20 _ _ _ | exact al21 _ _ _ | exact al30 _ _ _ _ | exact al31 _ _ _ _ | exact al32 _ _ _ _
                   case hXb => omega
                   case hc => first | exact bl1 _ _ | exact bl2 _ _ _ | exact bl3 _ _ _ _
                   case hs => first | exact (bl1 _ _).size | exact (bl2 _ _ _).size | exact (bl3 _ _ _ _).size
                   intro g6 c6 w6 o6 gr6 at6 lt6
                   simp only [Nat.zero_add, List.nil_append] at o6
                   clear at6
                   first
                     | (have gr7 : World.grownBy _ w6 (some W5.heap.size) := gr6)
                     | (have gr7 : World.grownBy _ w6 (some (W5.heap.size + 1)) := gr6)
                     | (have gr7 : World.grownBy _ w6 (some (W5.heap.size + 2)) := gr6)
                     | fail
                   clear gr6
                   first
                     | (have B6 := gw1 (W := W5) gr7)
                     | (have hh := g312 (W := W5) gr7; obtain ⟨hp1, hp2, B6⟩ := hh)
                     | (have hh := g302 (W := W5) gr7; obtain ⟨hp0, hp2, B6⟩ := hh)
                     | (have hh := g301 (W := W5) gr7; obtain ⟨hp0, hp1, B6⟩ := hh)
                     | (have hh := g21 (W := W5) gr7; obtain ⟨hp1, B6⟩ := hh)
                     | (have hh := g20 (W := W5) gr7; obtain ⟨hp0, B6⟩ := hh)
                     | fail
                   clear gr7
                   have k0 := later' B6 d1
                   have k1 := later' B6 v0
                   have k2 := later' B6 v1
                   have k3 := later' B6 v2
                   have k4 := later' B6 v3
                   have k5 := later' B6 v4
                   have k6 := later' B6 v5
                   have k7 := later' B6 v6
                   have k8 := later' B6 v7
                   have hz6 := B6.size
                   have hr2 : w2.heap.size < w6.heap.size := by omega
                   have hr3 : w3.heap.size < w6.heap.size := by omega)
                | (revert hp1 hp2
                   intro hp1 hp2
                   refine step_append_lies _ rfl _ _ 24 rfl W5.heap.size 48 i0 (.agg #[.string ⟨#[]⟩, .slice none 0 0, .int .i64 0, .string ⟨#[]⟩, .bool false, .int .u64 0, .slice none 0 0, .slice none 0 0, .slice none 0 0, .slice none 0 0]) 10 176 Tryd.underlying24 hi0 hz0 hzs hzb rfl (by decide) (.slice (some ⟨g6, 0, none⟩) md.2.length c6) md.2.length xb (congrArg (fun q => Value.slice (some ⟨g6, 0, none⟩) q c6) (Nat.zero_add md.2.length)) o6 ⟨W5.heap.size + 2, 0, none⟩ 1 1 (lastC (.slice (some ⟨W5.heap.size + 1, 0, none⟩) 1 1) (.string (tx nm0))) rfl rfl (World.news_of_block hp2) (last_one _ _ rfl rfl) (by decide) m7 m8 (by first | exact (B6.trans ((Below.refl w6.heap.size w6).mono B6.size)).size) _ rfl ?_
                   intro g8 c8 w8 o8 gr8 at8 lt8
                   have HF := Hd (free_at (P := W5.heap.size + 1) (B6.trans ((Below.refl w6.heap.size w6).mono B6.size)) (hp1) hlen0 (o6) gr8 o8)
                   have n0 := later' HF.out.bel d1
                   have n1 := later' HF.out.bel v0
                   have n2 := later' HF.out.bel v1
                   have n3 := later' HF.out.bel v2
                   have n4 := later' HF.out.bel v3
                   have n5 := later' HF.out.bel v4
                   have n6 := later' HF.out.bel v5
                   have n7 := later' HF.out.bel v6
                   have n8 := later' HF.out.bel v7
                   have e8 := later' HF.out.bel e1
                   have z8 : w8.frozen? ⟨W4.heap.size, 1, none⟩ = false := (HV5.out.2.below HF.out.bel).2 1)
                | (revert hp0 hp2
                   intro hp0 hp2
                   refine step_append_lies _ rfl _ _ 24 rfl W5.heap.size 48 i0 (.agg #[.string ⟨#[]⟩, .slice none 0 0, .int .i64 0, .string ⟨#[]⟩, .bool false, .int .u64 0, .slice none 0 0, .slice none 0 0, .slice none 0 0, .slice none 0 0]) 10 176 Tryd.underlying24 hi0 hz0 hzs hzb rfl (by decide) (.slice (some ⟨g6, 0, none⟩) md.2.length c6) md.2.length xb (congrArg (fun q => Value.slice (some ⟨g6, 0, none⟩) q c6) (Nat.zero_add md.2.length)) o6 ⟨W5.heap.size + 2, 0, none⟩ 1 1 (lastC (.slice (some ⟨W5.heap.size, 0, none⟩) 1 1) (.string (tx nm0))) rfl rfl (World.news_of_block hp2) (last_one _ _ rfl rfl) (by decide) m7 m8 (by first | exact (B6.trans ((Below.refl w6.heap.size w6).mono B6.size)).size) _ rfl ?_
                   intro g8 c8 w8 o8 gr8 at8 lt8
                   have HF := Hd (free_at (P := W5.heap.size) (B6.trans ((Below.refl w6.heap.size w6).mono B6.size)) (hp0) hlen0 (o6) gr8 o8)
                   have n0 := later' HF.out.bel d1
                   have n1 := later' HF.out.bel v0
                   have n2 := later' HF.out.bel v1
                   have n3 := later' HF.out.bel v2
                   have n4 := later' HF.out.bel v3
                   have n5 := later' HF.out.bel v4
                   have n6 := later' HF.out.bel v5
                   have n7 := later' HF.out.bel v6
                   have n8 := later' HF.out.bel v7
                   have e8 := later' HF.out.bel e1
                   have z8 : w8.frozen? ⟨W4.heap.size, 1, none⟩ = false := (HV5.out.2.below HF.out.bel).2 1)
                | (revert hp0 hp1
                   intro hp0 hp1
                   refine step_append_lies _ rfl _ _ 24 rfl W5.heap.size 48 i0 (.agg #[.string ⟨#[]⟩, .slice none 0 0, .int .i64 0, .string ⟨#[]⟩, .bool false, .int .u64 0, .slice none 0 0, .slice none 0 0, .slice none 0 0, .slice none 0 0]) 10 176 Tryd.underlying24 hi0 hz0 hzs hzb rfl (by decide) (.slice (some ⟨g6, 0, none⟩) md.2.length c6) md.2.length xb (congrArg (fun q => Value.slice (some ⟨g6, 0, none⟩) q c6) (Nat.zero_add md.2.length)) o6 ⟨W5.heap.size + 1, 0, none⟩ 1 1 (lastC (.slice (some ⟨W5.heap.size, 0, none⟩) 1 1) (.string (tx nm0))) rfl rfl (World.news_of_block hp1) (last_one _ _ rfl rfl) (by decide) m7 m8 (by first | exact (B6.trans ((Below.refl w6.heap.size w6).mono B6.size)).size) _ rfl ?_
                   intro g8 c8 w8 o8 gr8 at8 lt8
                   have HF := Hd (free_at (P := W5.heap.size) (B6.trans ((Below.refl w6.heap.size w6).mono B6.size)) (hp0) hlen0 (o6) gr8 o8)
                   have n0 := later' HF.out.bel d1
                   have n1 := later' HF.out.bel v0
                   have n2 := later' HF.out.bel v1
                   have n3 := later' HF.out.bel v2
                   have n4 := later' HF.out.bel v3
                   have n5 := later' HF.out.bel v4
                   have n6 := later' HF.out.bel v5
                   have n7 := later' HF.out.bel v6
                   have n8 := later' HF.out.bel v7
                   have e8 := later' HF.out.bel e1
                   have z8 : w8.frozen? ⟨W4.heap.size, 1, none⟩ = false := (HV5.out.2.below HF.out.bel).2 1)
                | (revert hp1
                   intro hp1
                   refine step_append_lies _ rfl _ _ 24 rfl W5.heap.size 48 i0 (.agg #[.string ⟨#[]⟩, .slice none 0 0, .int .i64 0, .string ⟨#[]⟩, .bool false, .int .u64 0, .slice none 0 0, .slice none 0 0, .slice none 0 0, .slice none 0 0]) 10 176 Tryd.underlying24 hi0 hz0 hzs hzb rfl (by decide) (.slice (some ⟨g6, 0, none⟩) md.2.length c6) md.2.length xb rfl (own_below o6 (be1 w6 (.cells #[.string ⟨#[113, 48]⟩, .slice (some ⟨W5.heap.size + 1, 0, none⟩) 1 1, .int .i64 1, .string (tx nm0), .bool false, .int .u64 0, .slice none 0 0, .slice none 0 0, .slice none 0 0, .slice none 0 0] 48))) ⟨w6.heap.size, 0, none⟩ 1 1 (lastC (.slice (some ⟨W5.heap.size + 1, 0, none⟩) 1 1) (.string (tx nm0))) rfl rfl (World.news_of_block (al10 w6 (.cells #[.string ⟨#[113, 48]⟩, .slice (some ⟨W5.heap.size + 1, 0, none⟩) 1 1, .int .i64 1, .string (tx nm0), .bool false, .int .u64 0, .slice none 0 0, .slice none 0 0, .slice none 0 0, .slice none 0 0] 48))) (last_one _ _ rfl rfl) (by decide) m7 m8 (by first | exact (B6.trans ((be1 w6 (.cells #[.string ⟨#[113, 48]⟩, .slice (some ⟨W5.heap.size + 1, 0, none⟩) 1 1, .int .i64 1, .string (tx nm0), .bool false, .int .u64 0, .slice none 0 0, .slice none 0 0, .slice none 0 0, .slice none 0 0] 48)).mono B6.size)).size) _ rfl ?_
                   intro g8 c8 w8 o8 gr8 at8 lt8
                   have HF := Hd (free_at (P := W5.heap.size + 1) (B6.trans ((be1 w6 (.cells #[.string ⟨#[113, 48]⟩, .slice (some ⟨W5.heap.size + 1, 0, none⟩) 1 1, .int .i64 1, .string (tx nm0), .bool false, .int .u64 0, .slice none 0 0, .slice none 0 0, .slice none 0 0, .slice none 0 0] 48)).mono B6.size)) (((be1 w6 (.cells #[.string ⟨#[113, 48]⟩, .slice (some ⟨W5.heap.size + 1, 0, none⟩) 1 1, .int .i64 1, .string (tx nm0), .bool false, .int .u64 0, .slice none 0 0, .slice none 0 0, .slice none 0 0, .slice none 0 0] 48)).block _ (hp_lt hp1)).trans hp1) hlen0 ((own_below o6 (be1 w6 (.cells #[.string ⟨#[113, 48]⟩, .slice (some ⟨W5.heap.size + 1, 0, none⟩) 1 1, .int .i64 1, .string (tx nm0), .bool false, .int .u64 0, .slice none 0 0, .slice none 0 0, .slice none 0 0, .slice none 0 0] 48)))) gr8 o8)
                   have n0 := later' HF.out.bel d1
                   have n1 := later' HF.out.bel v0
                   have n2 := later' HF.out.bel v1
                   have n3 := later' HF.out.bel v2
                   have n4 := later' HF.out.bel v3
                   have n5 := later' HF.out.bel v4
                   have n6 := later' HF.out.bel v5
                   have n7 := later' HF.out.bel v6
                   have n8 := later' HF.out.bel v7
                   have e8 := later' HF.out.bel e1
                   have z8 : w8.frozen? ⟨W4.heap.size, 1, none⟩ = false := (HV5.out.2.below HF.out.bel).2 1)
                | (revert hp0
                   intro hp0
                   refine step_append_lies _ rfl _ _ 24 rfl W5.heap.size 48 i0 (.agg #[.string ⟨#[]⟩, .slice none 0 0, .int .i64 0, .string ⟨#[]⟩, .bool false, .int .u64 0, .slice none 0 0, .slice none 0 0, .slice none 0 0, .slice none 0 0]) 10 176 Tryd.underlying24 hi0 hz0 hzs hzb rfl (by decide) (.slice (some ⟨g6, 0, none⟩) md.2.length c6) md.2.length xb rfl (own_below o6 (be1 w6 (.cells #[.string ⟨#[113, 48]⟩, .slice (some ⟨W5.heap.size, 0, none⟩) 1 1, .int .i64 1, .string (tx nm0), .bool false, .int .u64 0, .slice none 0 0, .slice none 0 0, .slice none 0 0, .slice none 0 0] 48))) ⟨w6.heap.size, 0, none⟩ 1 1 (lastC (.slice (some ⟨W5.heap.size, 0, none⟩) 1 1) (.string (tx nm0))) rfl rfl (World.news_of_block (al10 w6 (.cells #[.string ⟨#[113, 48]⟩, .slice (some ⟨W5.heap.size, 0, none⟩) 1 1, .int .i64 1, .string (tx nm0), .bool false, .int .u64 0, .slice none 0 0, .slice none 0 0, .slice none 0 0, .slice none 0 0] 48))) (last_one _ _ rfl rfl) (by decide) m7 m8 (by first | exact (B6.trans ((be1 w6 (.cells #[.string ⟨#[113, 48]⟩, .slice (some ⟨W5.heap.size, 0, none⟩) 1 1, .int .i64 1, .string (tx nm0), .bool false, .int .u64 0, .slice none 0 0, .slice none 0 0, .slice none 0 0, .slice none 0 0] 48)).mono B6.size)).size) _ rfl ?_
                   intro g8 c8 w8 o8 gr8 at8 lt8
                   have HF := Hd (free_at (P := W5.heap.size) (B6.trans ((be1 w6 (.cells #[.string ⟨#[113, 48]⟩, .slice (some ⟨W5.heap.size, 0, none⟩) 1 1, .int .i64 1, .string (tx nm0), .bool false, .int .u64 0, .slice none 0 0, .slice none 0 0, .slice none 0 0, .slice none 0 0] 48)).mono B6.size)) (((be1 w6 (.cells #[.string ⟨#[113, 48]⟩, .slice (some ⟨W5.heap.size, 0, none⟩) 1 1, .int .i64 1, .string (tx nm0), .bool false, .int .u64 0, .slice none 0 0, .slice none 0 0, .slice none 0 0, .slice none 0 0] 48)).block _ (hp_lt hp0)).trans hp0) hlen0 ((own_below o6 (be1 w6 (.cells #[.string ⟨#[113, 48]⟩, .slice (some ⟨W5.heap.size, 0, none⟩) 1 1, .int .i64 1, .string (tx nm0), .bool false, .int .u64 0, .slice none 0 0, .slice none 0 0, .slice none 0 0, .slice none 0 0] 48)))) gr8 o8)
                   have n0 := later' HF.out.bel d1
                   have n1 := later' HF.out.bel v0
                   have n2 := later' HF.out.bel v1
                   have n3 := later' HF.out.bel v2
                   have n4 := later' HF.out.bel v3
                   have n5 := later' HF.out.bel v4
                   have n6 := later' HF.out.bel v5
                   have n7 := later' HF.out.bel v6
                   have n8 := later' HF.out.bel v7
                   have e8 := later' HF.out.bel e1
                   have z8 : w8.frozen? ⟨W4.heap.size, 1, none⟩ = false := (HV5.out.2.below HF.out.bel).2 1)
                | (revert o6
                   intro o6
                   refine step_append_lies _ rfl _ _ 24 rfl W5.heap.size 48 i0 (.agg #[.string ⟨#[]⟩, .slice none 0 0, .int .i64 0, .string ⟨#[]⟩, .bool false, .int .u64 0, .slice none 0 0, .slice none 0 0, .slice none 0 0, .slice none 0 0]) 10 176 Tryd.underlying24 hi0 hz0 hzs hzb rfl (by decide) (.slice (some ⟨g6, 0, none⟩) md.2.length c6) md.2.length xb rfl (own_below o6 (be2 w6 (.cells #[.string (tx nm0)] 9) (.cells #[.string ⟨#[113, 48]⟩, .slice (some ⟨w6.heap.size, 0, none⟩) 1 1, .int .i64 1, .string (tx nm0), .bool false, .int .u64 0, .slice none 0 0, .slice none 0 0, .slice none 0 0, .slice none 0 0] 48))) ⟨w6.heap.size + 1, 0, none⟩ 1 1 (lastC (.slice (some ⟨w6.heap.size, 0, none⟩) 1 1) (.string (tx nm0))) rfl rfl (World.news_of_block (al21 w6 (.cells #[.string (tx nm0)] 9) (.cells #[.string ⟨#[113, 48]⟩, .slice (some ⟨w6.heap.size, 0, none⟩) 1 1, .int .i64 1, .string (tx nm0), .bool false, .int .u64 0, .slice none 0 0, .slice none 0 0, .slice none 0 0, .slice none 0 0] 48))) (last_one _ _ rfl rfl) (by decide) m7 m8 (by first | exact (B6.trans ((be2 w6 (.cells #[.string (tx nm0)] 9) (.cells #[.string ⟨#[113, 48]⟩, .slice (some ⟨w6.heap.size, 0, none⟩) 1 1, .int .i64 1, .string (tx nm0), .bool false, .int .u64 0, .slice none 0 0, .slice none 0 0, .slice none 0 0, .slice none 0 0] 48)).mono B6.size)).size) _ rfl ?_
                   intro g8 c8 w8 o8 gr8 at8 lt8
                   have HF := Hd (free_at (P := w6.heap.size) (B6.trans ((be2 w6 (.cells #[.string (tx nm0)] 9) (.cells #[.string ⟨#[113, 48]⟩, .slice (some ⟨w6.heap.size, 0, none⟩) 1 1, .int .i64 1, .string (tx nm0), .bool false, .int .u64 0, .slice none 0 0, .slice none 0 0, .slice none 0 0, .slice none 0 0] 48)).mono B6.size)) (al20 w6 (.cells #[.string (tx nm0)] 9) (.cells #[.string ⟨#[113, 48]⟩, .slice (some ⟨w6.heap.size, 0, none⟩) 1 1, .int .i64 1, .string (tx nm0), .bool false, .int .u64 0, .slice none 0 0, .slice none 0 0, .slice none 0 0, .slice none 0 0] 48)) hlen0 ((own_below o6 (be2 w6 (.cells #[.string (tx nm0)] 9) (.cells #[.string ⟨#[113, 48]⟩, .slice (some ⟨w6.heap.size, 0, none⟩) 1 1, .int .i64 1, .string (tx nm0), .bool false, .int .u64 0, .slice none 0 0, .slice none 0 0, .slice none 0 0, .slice none 0 0] 48)))) gr8 o8)
                   have n0 := later' HF.out.bel d1
                   have n1 := later' HF.out.bel v0
                   have n2 := later' HF.out.bel v1
                   have n3 := later' HF.out.bel v2
                   have n4 := later' HF.out.bel v3
                   have n5 := later' HF.out.bel v4
                   have n6 := later' HF.out.bel v5
                   have n7 := later' HF.out.bel v6
                   have n8 := later' HF.out.bel v7
                   have e8 := later' HF.out.bel e1
                   have z8 : w8.frozen? ⟨W4.heap.size, 1, none⟩ = false := (HV5.out.2.below HF.out.bel).2 1)
                | fail)
              all_goals
                have h8 : Below w.heap.size w (w8.setCell ⟨W4.heap.size, 1, none⟩ (.slice (some ⟨g8, 0, none⟩) (md.2.length + 1) c8)) := below_of_new (onB' H3.out.2.2.1 (onB' h35 HF.out.bel)) (set_grown ..) (by have := H3.out.2.2.1.size; omega)
                have hst := free_state (b0 := w2.heap.size) HF.out h35 (H3.out.1.below h35) HB5.out HV5.out.2 H3.out.2.2.2 Nr hlt2 hlt3 hlt4 (.slice (some ⟨g8, 0, none⟩) (md.2.length + 1) c8)
                have HFi := Hd (Ai hst (Ai HF.out.len (Ai HF.out.cap (Ai HF.out.low h8))))
                clear hst h8
                go_wp2_with fail
                go_meet
                exact ⟨rfl, g8, c8, _, HFi.out⟩
            case rest =>
              obtain ⟨rfl, g, c, P, ⟨hf, hrow, hP⟩, hc1, hc2, hgl, hbw⟩ := hcut
              rename World => w6
              clear d1 v0 v1 v2 v3 v4 v5 v6 v7 e1 i0 hi0 hz0 hzs hzb hxl hone m5 m6 m7 m8 hD
              have hz6 : W5.heap.size ≤ w6.heap.size := by have := hp_lt hP; have := hrow.1; obtain ⟨cur, hc⟩ := this; have := hp_lt hc; omega
              have HF6 := Hd (Ai hf (Ai hrow hP))
              have HC1 := Hd (more_check md HK.out.1 HSm.out w2.heap.size [nm0] nm0 (fun x hx => by rw [List.mem_singleton.1 hx]; exact HNm.out.1) HNm.out.1 (by simp) ad cd xb g c (.slice (some ⟨P, 0, none⟩) 1 1) w3 w6 H3.out.2.1.dr HBx.out.2 hf.keep hrow hc1 hc2 (ones_row (ps := [nm0]) hP rfl (by decide)) hf.err)
              rw [free_one HSc.out HNo.out nm0, show stN (none : Fo) = (0, []) from rfl] at HC1
              have c0 : w6.cell? ⟨W4.heap.size, 0, none⟩ = some (.slice ad md.1.length cd) := hf.nbox.1 0 _ rfl
              have c1 : w6.cell? ⟨W4.heap.size, 1, none⟩ = some (.slice (some ⟨g, 0, none⟩) (md.2.length + 1) c) := hf.nbox.1 1 _ rfl
              clear hf hrow hP
              go_wp2_with fail
              refine HC1.out.mono ?_
              rintro e w7 ⟨rfl, hb7⟩
              have hbw7 := onB' hbw hb7
              have HF7 := Hd (Ai (HF6.out.1.below hb7 (by omega)) (HF6.out.2.1.below hb7))
              have hz7 := hb7.size
              clear hb7 HC1 c0 c1 hbw HF6
              have hqg : g < w7.heap.size := by obtain ⟨⟨cur, hc⟩, -⟩ := HF7.out.2; exact hp_lt hc
              have hqn : W4.heap.size < w7.heap.size := by omega
              have hqv : w3.heap.size < w7.heap.size := by omega
              have hxl := HBx.out.2.len
              have c1 : w7.cell? ⟨W4.heap.size, 1, none⟩ = some (.slice (some ⟨g, 0, none⟩) (md.2.length + 1) c) := HF7.out.1.nbox.1 1 _ rfl
              have v0 : w7.cell? ⟨w3.heap.size, 0, none⟩ = some (.int .i64 1) := HF7.out.1.vbox.1 0 _ rfl
              have v1 : w7.cell? ⟨w3.heap.size, 1, none⟩ = some (.string (tx nm0)) := HF7.out.1.vbox.1 1 _ rfl
              have v2 : w7.cell? ⟨w3.heap.size, 2, none⟩ = some (.bool false) := HF7.out.1.vbox.1 2 _ rfl
              have v3 : w7.cell? ⟨w3.heap.size, 3, none⟩ = some (.int .u64 0) := HF7.out.1.vbox.1 3 _ rfl
              have v4 : w7.cell? ⟨w3.heap.size, 4, none⟩ = some (.slice none 0 0) := HF7.out.1.vbox.1 4 _ rfl
              have v5 : w7.cell? ⟨w3.heap.size, 5, none⟩ = some (.slice none 0 0) := HF7.out.1.vbox.1 5 _ rfl
              have v6 : w7.cell? ⟨w3.heap.size, 6, none⟩ = some (.slice none 0 0) := HF7.out.1.vbox.1 6 _ rfl
              have v7 : w7.cell? ⟨w3.heap.size, 7, none⟩ = some (.slice none 0 0) := HF7.out.1.vbox.1 7 _ rfl
              have b0 : w7.cell? ⟨g, md.2.length * 10, none⟩ = some (.string (tx q0L)) := by rw [← hxl]; exact HF7.out.2.cut 0 _ rfl
              have b1 : w7.cell? ⟨g, md.2.length * 10 + 1, none⟩ = some (.slice (some ⟨P, 0, none⟩) 1 1) := by rw [← hxl]; exact HF7.out.2.cut 1 _ rfl
              have b2 : w7.cell? ⟨g, md.2.length * 10 + 2, none⟩ = some (.int .i64 1) := by rw [← hxl]; exact HF7.out.2.cut 2 _ rfl
              have b3 : w7.cell? ⟨g, md.2.length * 10 + 3, none⟩ = some (.string (tx nm0)) := by rw [← hxl]; exact HF7.out.2.cut 3 _ rfl
              have b4 : w7.cell? ⟨g, md.2.length * 10 + 4, none⟩ = some (.bool false) := by rw [← hxl]; exact HF7.out.2.cut 4 _ rfl
              have b5 : w7.cell? ⟨g, md.2.length * 10 + 5, none⟩ = some (.int .u64 0) := by rw [← hxl]; exact HF7.out.2.cut 5 _ rfl
              have b6 : w7.cell? ⟨g, md.2.length * 10 + 6, none⟩ = some (.slice none 0 0) := by rw [← hxl]; exact HF7.out.2.cut 6 _ rfl
              have b7 : w7.cell? ⟨g, md.2.length * 10 + 7, none⟩ = some (.slice none 0 0) := by rw [← hxl]; exact HF7.out.2.cut 7 _ rfl
              have b8 : w7.cell? ⟨g, md.2.length * 10 + 8, none⟩ = some (.slice none 0 0) := by rw [← hxl]; exact HF7.out.2.cut 8 _ rfl
              have b9 : w7.cell? ⟨g, md.2.length * 10 + 9, none⟩ = some (.slice none 0 0) := by rw [← hxl]; exact HF7.out.2.cut 9 _ rfl
              have fz : ∀ j, w7.frozen? ⟨g, j, none⟩ = false := fun j => HF7.out.2.unfrozen
              have ew : IntKind.i64.wrap ((md.2.length : Int) + 1 - 1) = (md.2.length : Int) := by rw [IntKind.wrap_i64]; omega
              have hlb : (md.2.length : Int) < ((md.2.length + 1 : Nat) : Int) := by omega
              have hk := over_set HF7.out.2 hxl (.string ⟨#[113, 48]⟩) (.slice (some ⟨w7.heap.size, 0, none⟩) 2 2) (.int .i64 1) (.string (tx nm0)) (.bool false) (.int .u64 0) (.slice none 0 0) (.slice none 0 0) (.slice none 0 0) (.slice none 0 0)
              have HK7 := Hd hk
              clear hk
              go_upto_region 22 with fail
              have hk := HK7.out
              clear HK7
              generalize ((((((((((w7.setCell ⟨g, md.2.length * 10, none⟩ (.string ⟨#[113, 48]⟩)).setCell ⟨g, md.2.length * 10 + 1, none⟩ (.slice (some ⟨w7.heap.size, 0, none⟩) 2 2)).setCell ⟨g, md.2.length * 10 + 2, none⟩ (.int .i64 1)).setCell ⟨g, md.2.length * 10 + 3, none⟩ (.string (tx nm0))).setCell ⟨g, md.2.length * 10 + 4, none⟩ (.bool false)).setCell ⟨g, md.2.length * 10 + 5, none⟩ (.int .u64 0)).setCell ⟨g, md.2.length * 10 + 6, none⟩ (.slice none 0 0)).setCell ⟨g, md.2.length * 10 + 7, none⟩ (.slice none 0 0)).setCell ⟨g, md.2.length * 10 + 8, none⟩ (.slice none 0 0)).setCell ⟨g, md.2.length * 10 + 9, none⟩ (.slice none 0 0)) = W8 at hk ⊢
              have hal := be1 W8 (.cells #[.string (tx nm0), .string (tx nm0)] 9)
              have hQ := heap_alloc_new W8 (.cells #[.string (tx nm0), .string (tx nm0)] 9)
              rw [hk.2.2] at hQ
              have hf9 := (HF7.out.1.grown hk.2.1 (by omega) (by omega) (by omega) (by omega) (by omega) (by have := HGl.out; omega)).below hal (by have := hk.2.2; omega)
              have hr9 := hk.1.below hal
              have hb9 : Below w.heap.size w (W8.alloc (.cells #[.string (tx nm0), .string (tx nm0)] 9)) := onB' (below_of_new hbw7 hk.2.1 (by have := hbw7.size; have := H3.out.2.2.1.size; omega)) hal
              have hz9 := hal.size
              have hz8 := hk.2.2
              generalize (W8.alloc (.cells #[.string (tx nm0), .string (tx nm0)] 9)) = W9 at *
              have HC2 := Hd (more_check md HK.out.1 HSm.out w2.heap.size [nm0, nm0] nm0 (fun x hx => by simp at hx; rw [hx]; exact HNm.out.1) HNm.out.1 (by simp) ad cd xb g c (.slice (some ⟨w7.heap.size, 0, none⟩) 2 2) w3 W9 H3.out.2.1.dr HBx.out.2 hf9.keep hr9 hc1 hc2 (ones_row (ps := [nm0, nm0]) hQ rfl (by decide)) hf9.err)
              rw [free_two HSc.out HNo.out nm0, show stN (some (5, nm0) : Fo) = (5, nm0) from rfl] at HC2
              have HF9 := Hd (Ai hf9 (Ai hr9 hb9))
              clear c1 v0 v1 v2 v3 v4 v5 v6 v7 b0 b1 b2 b3 b4 b5 b6 b7 b8 b9 fz hqg hqn hqv HF7 hbw7
              have c0 : W9.cell? ⟨W4.heap.size, 0, none⟩ = some (.slice ad md.1.length cd) := hf9.nbox.1 0 _ rfl
              have c1 : W9.cell? ⟨W4.heap.size, 1, none⟩ = some (.slice (some ⟨g, 0, none⟩) (md.2.length + 1) c) := hf9.nbox.1 1 _ rfl
              clear hf9 hr9 hQ hal hk
              go_wp2_with fail
              refine HC2.out.mono ?_
              rintro e w10 ⟨rfl, hb10⟩
              have hbw10 := onB' HF9.out.2.2 hb10
              have HF10 := Hd (Ai (HF9.out.1.below hb10 (by omega)) (HF9.out.2.1.below hb10))
              have hz10 := hb10.size
              clear hb10 HC2 c0 c1 HF9 hb9
              have hqg : g < w10.heap.size := by obtain ⟨⟨cur, hc⟩, -⟩ := HF10.out.2; exact hp_lt hc
              have c1 : w10.cell? ⟨W4.heap.size, 1, none⟩ = some (.slice (some ⟨g, 0, none⟩) (md.2.length + 1) c) := HF10.out.1.nbox.1 1 _ rfl
              have b0 : w10.cell? ⟨g, md.2.length * 10, none⟩ = some (.string (tx q0L)) := by rw [← hxl]; exact HF10.out.2.cut 0 _ rfl
              have b1 : w10.cell? ⟨g, md.2.length * 10 + 1, none⟩ = some (.slice (some ⟨w7.heap.size, 0, none⟩) 2 2) := by rw [← hxl]; exact HF10.out.2.cut 1 _ rfl
              have b2 : w10.cell? ⟨g, md.2.length * 10 + 2, none⟩ = some (.int .i64 1) := by rw [← hxl]; exact HF10.out.2.cut 2 _ rfl
              have b3 : w10.cell? ⟨g, md.2.length * 10 + 3, none⟩ = some (.string (tx nm0)) := by rw [← hxl]; exact HF10.out.2.cut 3 _ rfl
              have b4 : w10.cell? ⟨g, md.2.length * 10 + 4, none⟩ = some (.bool false) := by rw [← hxl]; exact HF10.out.2.cut 4 _ rfl
              have b5 : w10.cell? ⟨g, md.2.length * 10 + 5, none⟩ = some (.int .u64 0) := by rw [← hxl]; exact HF10.out.2.cut 5 _ rfl
              have b6 : w10.cell? ⟨g, md.2.length * 10 + 6, none⟩ = some (.slice none 0 0) := by rw [← hxl]; exact HF10.out.2.cut 6 _ rfl
              have b7 : w10.cell? ⟨g, md.2.length * 10 + 7, none⟩ = some (.slice none 0 0) := by rw [← hxl]; exact HF10.out.2.cut 7 _ rfl
              have b8 : w10.cell? ⟨g, md.2.length * 10 + 8, none⟩ = some (.slice none 0 0) := by rw [← hxl]; exact HF10.out.2.cut 8 _ rfl
              have b9 : w10.cell? ⟨g, md.2.length * 10 + 9, none⟩ = some (.slice none 0 0) := by rw [← hxl]; exact HF10.out.2.cut 9 _ rfl
              have fz : ∀ j, w10.frozen? ⟨g, j, none⟩ = false := fun j => HF10.out.2.unfrozen
              have hk := over_set HF10.out.2 hxl (.string ⟨#[113, 48]⟩) (.slice none 0 0) (.int .i64 1) (.string ⟨#[113, 49]⟩) (.bool false) (.int .u64 0) (.slice none 0 0) (.slice none 0 0) (.slice none 0 0) (.slice none 0 0)
              have HK10 := Hd hk
              clear hk
              go_upto_region 24 with fail
              have hk := HK10.out
              clear HK10
              generalize ((((((((((w10.setCell ⟨g, md.2.length * 10, none⟩ (.string ⟨#[113, 48]⟩)).setCell ⟨g, md.2.length * 10 + 1, none⟩ (.slice none 0 0)).setCell ⟨g, md.2.length * 10 + 2, none⟩ (.int .i64 1)).setCell ⟨g, md.2.length * 10 + 3, none⟩ (.string ⟨#[113, 49]⟩)).setCell ⟨g, md.2.length * 10 + 4, none⟩ (.bool false)).setCell ⟨g, md.2.length * 10 + 5, none⟩ (.int .u64 0)).setCell ⟨g, md.2.length * 10 + 6, none⟩ (.slice none 0 0)).setCell ⟨g, md.2.length * 10 + 7, none⟩ (.slice none 0 0)).setCell ⟨g, md.2.length * 10 + 8, none⟩ (.slice none 0 0)).setCell ⟨g, md.2.length * 10 + 9, none⟩ (.slice none 0 0)) = W11 at hk ⊢
              have hf11 := HF10.out.1.grown hk.2.1 (by omega) (by omega) (by omega) (by omega) (by omega) (by have := HGl.out; omega)
              have hr11 := hk.1
              have hb11 : Below w.heap.size w W11 := below_of_new hbw10 hk.2.1 (by have := hbw10.size; have := H3.out.2.2.1.size; omega)
              have hz11 := hk.2.2
              have HC3 := Hd (more_check md HK.out.1 HSm.out w2.heap.size [] q1L nms_nil (by exact ⟨by decide, by decide⟩) (by simp) ad cd xb g c (.slice none 0 0) w3 W11 H3.out.2.1.dr HBx.out.2 hf11.keep hr11 hc1 hc2 (RowAt.nil _ _ _ _) hf11.err)
              rw [free_none HSc.out HNo.out] at HC3
              have HF11 := Hd (Ai hf11 (Ai hr11 hb11))
              clear c1 b0 b1 b2 b3 b4 b5 b6 b7 b8 b9 fz hqg HF10 hbw10
              have c0 : W11.cell? ⟨W4.heap.size, 0, none⟩ = some (.slice ad md.1.length cd) := hf11.nbox.1 0 _ rfl
              have c1 : W11.cell? ⟨W4.heap.size, 1, none⟩ = some (.slice (some ⟨g, 0, none⟩) (md.2.length + 1) c) := hf11.nbox.1 1 _ rfl
              clear hf11 hr11 hk
              obtain ⟨er3, nn3, hst3⟩ : ∃ er nn, stN (if q1L ∈ bNames md.2 then none else some (4, q1L)) = (er, nn) := ⟨_, _, rfl⟩
              rw [hst3] at HC3
              have HS3 := Hd hst3
              clear hst3
              go_wp2_with fail
              refine HC3.out.mono ?_
              rintro e w12 ⟨rfl, hb12⟩
              have HB12 := Hd (onB' HF11.out.2.2 hb12)
              have HM12 := Hd ((HF11.out.1.mbox.below hb12))
              have hz12 := hb12.size
              have HR12 := Hd (fun k (hk : k < w2.heap.size) (hl : k < w3.heap.size) => (hb12.block k (by omega)).trans (HF11.out.1.keep k hk hl))
              clear hb12 HC3 c0 c1 HF11 hb11
              have HG1 := Hd hkg
              have HC12 := Hd (HM12.out.1 1 _ rfl)
              go_wp2_with fail
              go_loop [20, 21] (fun s20 s21 => ∃ j : Nat, j ≤ md.2.length ∧ s20 = .bool ((md.2.take j).any fun b => b.1 == q1L) ∧ s21 = .int .i64 j) (fun _ s21 => md.2.length - (RowKit.intOf s21).toNat)
              case atStart => exact ⟨0, Nat.zero_le _, rfl, rfl⟩
              case round =>
                obtain ⟨j, hj, rfl, rfl⟩ := hrel
                have m1 : w12.cell? ⟨w2.heap.size, 1, none⟩ = some (.slice (some ⟨g1, o1, none⟩) md.2.length cb) := HC12.out
                by_cases gj : j < md.2.length
                · have gj' : (j : Int) < (md.2.length : Int) := by omega
                  have ej : IntKind.i64.wrap ((j : Int) + 1) = (j : Int) + 1 := by rw [IntKind.wrap_i64]; omega
                  obtain ⟨gx, ox, eax, kx, mx', -, htx⟩ := HBx.out.1.at (by omega)
                  cases eax
                  obtain ⟨aq2, cq2, k2, nm2, f2, u2, ap2, np2, cp2, ak2, nk2, ck2, ab3, nb2, cb3, aa2, na2, ca2, -, -, hz⟩ := HBx.out.2.cells j gj
                  have p3 : w3.cell? ⟨g1, o1 + j * 10, none⟩ = some (.string (tx md.2[j].1)) := htx _ _ (hz 0 _ rfl)
                  have p0 : w12.cell? ⟨g1, o1 + j * 10, none⟩ = some (.string (tx md.2[j].1)) := (World.cell?_of_block (a := ⟨g1, o1 + j * 10, none⟩) (HR12.out g1 HG1.out (by have := HG1.out; omega))).trans p3
                  have HSU := Hd (any_succ md.2 j gj)
                  have b0 : (0 : Int) ≤ (j : Int) := by omega
                  clear hz htx p3
                  generalize md.2[j].1 = nmj at *
                  generalize ((md.2.take j).any fun b => b.1 == q1L) = kn at *
                  cases kn
                  · go_wp2_with fail
                    refine ⟨⟨j + 1, by omega, ?_, by go_num⟩, by simp [RowKit.intOf]; omega⟩
                    rw [HSU.out]
                    have := tx_eq nmj q1L
                    simp only [q1L] at this ⊢
                    simp [this]
                  · go_wp2_with fail
                    refine ⟨⟨j + 1, by omega, ?_, by go_num⟩, by simp [RowKit.intOf]; omega⟩
                    rw [HSU.out]
                    simp
                · obtain rfl : j = md.2.length := by omega
                  rw [any_all]
                  by_cases hq : q1L ∈ bNames md.2
                  · have h3 := HS3.out
                    rw [if_pos hq] at h3
                    cases h3
                    rw [decide_eq_true hq]
                    go_wp2_with fail
                    go_ret
                    exact ⟨rfl, HB12.out⟩
                  · have h3 := HS3.out
                    rw [if_neg hq] at h3
                    cases h3
                    rw [decide_eq_false hq]
                    go_wp2_with fail
                    go_ret
                    exact ⟨by rw [tx_eq]; rfl, HB12.out⟩
    · have f6 : decide ((md.2.length : Int) ≤ (n : Int)) = true := decide_eq_true (by omega)
      go_wp2_with fail
      go_ret
      exact ⟨rfl, HX.out.1⟩
end Go.Proofs.YtdjcdecbmeickaaDoor
