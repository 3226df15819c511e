import Derived.Shelf.LaysM
import Derived.Shelf.Strconv.Clone
import Derived.Lib.ParseIntB
import Derived.Lib.AtoiAll
import Derived.Lib.ItoaNum
import Derived.Lib.ParseIntBTie
import Derived.Lib.ParseIntBCases
import Derived.WalkKit
import Derived.WalkSpells
import Derived.WalkLawsBesides
import Derived.Deep.RegionHeld3
import Derived.Deep.DeepCutAuto
import Derived.KernelRfl
import Derived.Lib.Hide
import Derived.Lib.ItoaWalk
import Derived.Lib.LaidTab
import Derived.Stop.LaidErr
import Derived.Laws.Strings3
import Derived.Maps.OwnSet
import Derived.Maps.OwnOps
import Derived.Maps.Views
import Derived.Deep.AppendLies
import Derived.Laws.EntriesVeiled
import Derived.OpenShut
import Derived.ProofKit
import Derived.RegionTactic
import Derived.BigRegion
import Derived.Lib.ConvBytes
import Derived.Lib.AtoiAllMem
import Derived.Laws.Closers25
import Derived.Laws.Closers25b
import Derived.Shelf.Strings.SlTrimAscii
import Derived.Laws.StructEq
import Derived.Deep.MidRow
import Derived.WalkMore
import Derived.Deep.QuietTactic
import Derived.BigQuiet
import Derived.Shelf.Abstract
import Derived.RegionDies
import Derived.Deep.RegionHeldLaw
import Derived.Lib.QuietBelow
import Derived.Shelf.SlMaps.Clone
import Derived.LaidEql
import Derived.Stop.Asserts
import Derived.RowKitTokens
import Derived.StillTailTactics
import Derived.Deep.RegionHeld
import Derived.Lib.ItoaLen
import Derived.Defers
import Derived.Recover
import Derived.Laws.DeepStrings4
import Derived.Laws.OwnMore
import Derived.ChangeSame
import Derived.ChangeVars
import Derived.JoinedOf
import Derived.RowKit
import Derived.LaidLaws
import Derived.LaidHandle
import Derived.Stop.Joined
import Derived.Test.YtdjcdecbmeickaaDoorMg20
namespace Go.Proofs.YtdjcdecbmeickaaDoor
set_option maxHeartbeats 64000000
set_option maxRecDepth 100000
open Go.RowKit Go.Lib
theorem SetEq.app {a b : List Nm} (h : SetEq a b) (c : List Nm) : SetEq (a ++ c) (b ++ c) := fun x => by simp only [List.mem_append, h x]
theorem hasF_eq {a b : List Nm} (h : SetEq a b) (n : Nm) : hasF a n = hasF b n := by
  unfold hasF
  by_cases g : n ∈ a
  · rw [if_pos g, if_pos ((h n).1 g)]
  · rw [if_neg g, if_neg (fun e => g ((h n).2 e))]
mutual
theorem scE_eq {cs a b : List Nm} (h : SetEq a b) : ∀ (e : Ex), scE cs a e = scE cs b e
  | .mk k n f x ps ks bs al => by
    unfold scE
    rw [hasF_eq h, scEs_eq h ks, scBs_eq (h.app (bNames bs)) bs, scEs_eq (h.app (bNames bs)) ks, scAs_eq h al, scEs_eq (h.app ps) ks]
theorem scEs_eq {cs a b : List Nm} (h : SetEq a b) : ∀ (l : List Ex), scEs cs a l = scEs cs b l
  | [] => by unfold scEs; rfl
  | e :: r => by unfold scEs; rw [scE_eq h e, scEs_eq h r]
theorem scBs_eq {cs a b : List Nm} (h : SetEq a b) : ∀ (l : List (Nm × List Nm × Ex)), scBs cs a l = scBs cs b l
  | [] => by unfold scBs; rfl
  | (n, ps, e) :: r => by unfold scBs; rw [scE_eq (h.app ps) e, scBs_eq h r]
theorem scAs_eq {cs a b : List Nm} (h : SetEq a b) : ∀ (l : List (Int × Nm × Bool × Int × List Nm × Ex)), scAs cs a l = scAs cs b l
  | [] => by unfold scAs; rfl
  | (k, n, f, x, ns, e) :: r => by unfold scAs; rw [scE_eq (h.app ns) e, scE_eq (h.app [n]) e, scE_eq h e, scAs_eq h r]
end
end Go.Proofs.YtdjcdecbmeickaaDoor
namespace Go.Proofs.YtdjcdecbmeickaaDoor
set_option maxHeartbeats 64000000
set_option maxRecDepth 100000
open Go.RowKit Go.Lib
theorem Sub.app {a b : List Nm} (h : Sub a b) (c : List Nm) : Sub (a ++ c) (b ++ c) := fun x hx => by
  rcases List.mem_append.1 hx with g | g
  · exact List.mem_append.2 (Or.inl (h x g))
  · exact List.mem_append.2 (Or.inr g)
theorem twiceL_none : ∀ (l seen : List Nm), twiceL seen l = none ↔ l.Nodup ∧ ∀ x, x ∈ l → x ∉ seen
  | [], seen => by simp [twiceL]
  | x :: r, seen => by
    unfold twiceL
    by_cases g : x ∈ seen
    · rw [if_pos g]
      exact ⟨fun h => (by cases h), fun h => absurd g (h.2 x (List.mem_cons_self ..))⟩
    · rw [if_neg g, twiceL_none r (seen ++ [x])]
      constructor
      · rintro ⟨h1, h2⟩
        refine ⟨List.nodup_cons.2 ⟨fun hx => h2 x hx (List.mem_append.2 (Or.inr (List.mem_singleton.2 rfl))), h1⟩, fun y hy => ?_⟩
        rcases List.mem_cons.1 hy with rfl | hy
        · exact g
        · exact fun hs => h2 y hy (List.mem_append.2 (Or.inl hs))
      · rintro ⟨h1, h2⟩
        obtain ⟨h3, h4⟩ := List.nodup_cons.1 h1
        refine ⟨h4, fun y hy hs => ?_⟩
        rcases List.mem_append.1 hs with hs | hs
        · exact h2 y (List.mem_cons_of_mem _ hy) hs
        · rw [List.mem_singleton.1 hs] at hy; exact h3 hy
theorem twF_none (l : List Nm) : twF l = none ↔ l.Nodup := by
  unfold twF
  rw [Option.map_eq_none_iff, twiceL_none]
  exact ⟨fun h => h.1, fun h => ⟨h, fun _ _ hs => (by cases hs)⟩⟩
theorem scBs_none {cs sc : List Nm} : ∀ (l : List (Nm × List Nm × Ex)), scBs cs sc l = none ↔ ∀ b, b ∈ l → b.2.1.Nodup ∧ scE cs (sc ++ b.2.1) b.2.2 = none
  | [] => by unfold scBs; simp
  | (n, ps, e) :: r => by
    unfold scBs
    rw [or_none, or_none, twF_none, scBs_none r]
    constructor
    · rintro ⟨h1, h2⟩ b hb
      rcases List.mem_cons.1 hb with rfl | hb
      · exact h1
      · exact h2 b hb
    · intro h
      exact ⟨h _ (List.mem_cons_self ..), fun b hb => h b (List.mem_cons_of_mem _ hb)⟩
theorem scM_none (m : Md) : scM m = none ↔ (conNames m).Nodup ∧ (bNames m.2).Nodup ∧ mainL ∈ bNames m.2 ∧ ∀ b, b ∈ m.2 → b.2.1.Nodup ∧ scE (conNames m) (bNames m.2 ++ b.2.1) b.2.2 = none := by
  unfold scM
  rw [or_none, or_none, or_none, twF_none, twF_none, scBs_none]
  by_cases g : mainL ∈ bNames m.2
  · rw [if_pos g]; simp [g]
  · rw [if_neg g]; simp [g]
theorem scM_perm {cs : List (Nm × Int)} {a b : List Bnd} (h : a.Perm b) : scM (cs, a) = none ↔ scM (cs, b) = none := by
  rw [scM_none, scM_none]
  have hn : (bNames a).Perm (bNames b) := h.map _
  have hs : SetEq (bNames a) (bNames b) := fun x => hn.mem_iff
  show (conNames (cs, a)).Nodup ∧ (bNames a).Nodup ∧ mainL ∈ bNames a ∧ (∀ q, q ∈ a → _) ↔ (conNames (cs, b)).Nodup ∧ (bNames b).Nodup ∧ mainL ∈ bNames b ∧ (∀ q, q ∈ b → _)
  have hc : conNames (cs, a) = conNames (cs, b) := rfl
  rw [hc, hn.nodup_iff, hn.mem_iff]
  refine and_congr_right fun _ => and_congr_right fun _ => and_congr_right fun _ => ?_
  constructor
  · intro k q hq
    obtain ⟨k1, k2⟩ := k q (h.mem_iff.2 hq)
    exact ⟨k1, by rw [← scE_eq (hs.app q.2.1)]; exact k2⟩
  · intro k q hq
    obtain ⟨k1, k2⟩ := k q (h.mem_iff.1 hq)
    exact ⟨k1, by rw [scE_eq (hs.app q.2.1)]; exact k2⟩
end Go.Proofs.YtdjcdecbmeickaaDoor
namespace Go.Proofs.YtdjcdecbmeickaaDoor
set_option maxHeartbeats 64000000
set_option maxRecDepth 100000
open Go.RowKit Go.Lib
theorem BndsAt.one {W : World} {K : Nat → Prop} : ∀ {bs : List Bnd} {xs : List Value}, BndsAt W K bs xs → ∀ u ∈ xs, u.oneCell' = true
  | [], _, .nil => fun u hu => by cases hu
  | _ :: _, _, .cons n ps e bs vp cs xs hp h t => fun u hu => by
    obtain ⟨_, _, _, rfl⟩ := hp.slice
    rcases List.mem_append.1 hu with hu | hu
    · rcases List.mem_cons.1 hu with rfl | hu
      · rfl
      · rcases List.mem_cons.1 hu with rfl | hu
        · rfl
        · exact h.one u hu
    · exact t.one u hu
theorem BndsAt.append {W : World} {K : Nat → Prop} : ∀ {ls bs : List Bnd} {xs ys : List Value}, BndsAt W K ls xs → BndsAt W K bs ys → BndsAt W K (ls ++ bs) (xs ++ ys)
  | [], _, _, _, .nil, h => h
  | _ :: _, bs, _, ys, .cons n ps e ls vp cs xs hp h t, h2 => by
    have r := BndsAt.cons n ps e (ls ++ bs) vp cs (xs ++ ys) hp h (t.append h2)
    simpa [List.append_assoc] using r
theorem addr_add (g o j : Nat) : (⟨g, o, none⟩ : Addr).add j = ⟨g, o + j, none⟩ := by
  unfold Addr.add
  split <;> simp_all
theorem RowAt.cut {W : World} {K : Nat → Prop} {e : TypeId} {size n c : Nat} {a : Option Addr} {xs : List Value} (h : RowAt W K e size (.slice a n c) n xs) (l r : Nat) (hl : l ≤ r) (hr : r ≤ n) :
    RowAt W K e size (.slice (if c = l then a else a.map (·.add (l * size))) (r - l) (c - l)) (r - l) ((xs.drop (l * size)).take ((r - l) * size)) := by
  obtain ⟨h0, hv⟩ := h
  have hlen : ((xs.drop (l * size)).take ((r - l) * size)).length = (r - l) * size := by
    rw [List.length_take, List.length_drop, h0, ← Nat.sub_mul]
    exact Nat.min_eq_left (Nat.mul_le_mul_right _ (by omega))
  refine ⟨hlen, ?_⟩
  rcases hv with ⟨e1, rfl⟩ | ⟨g, o, c', cur, e1, hk, hc, h1, h2, h3⟩
  · cases e1
    have : r = 0 := by omega
    have : l = 0 := by omega
    subst_vars
    exact Or.inl ⟨rfl, rfl⟩
  · cases e1
    by_cases g1 : c = l
    · rw [if_pos g1]
      have hz : r - l = 0 := by omega
      refine Or.inr ⟨g, o, c - l, cur, rfl, hk, hc, by omega, by omega, fun j u hj => ?_⟩
      rw [hz, Nat.zero_mul, List.take_zero] at hj
      cases hj
    · rw [if_neg g1]
      refine Or.inr ⟨g, o + l * size, c - l, cur, by rw [Option.map_some, addr_add], hk, hc, by omega, by omega, fun j u hj => ?_⟩
      rw [List.getElem?_take] at hj
      split at hj
      · rw [List.getElem?_drop] at hj
        have := h3 _ u hj
        rwa [← Nat.add_assoc] at this
      · cases hj
theorem RowAt.room {W : World} {K : Nat → Prop} {e : TypeId} {size n c : Nat} {a : Option Addr} {xs : List Value} (h : RowAt W K e size (.slice a n c) n xs) : n ≤ c := by
  obtain ⟨_, ⟨e1, rfl⟩ | ⟨g, o, c', cur, e1, hk, hc, h1, h2, h3⟩⟩ := h
  · exact Nat.zero_le _
  · cases e1; exact h1
theorem RowAt.front {W : World} {K : Nat → Prop} {e : TypeId} {size n c : Nat} {a : Option Addr} {xs : List Value} (h : RowAt W K e size (.slice a n c) n xs) (k : Nat) (hk : k ≤ n) : RowAt W K e size (.slice a k c) k (xs.take (k * size)) := by
  obtain ⟨h0, hv⟩ := h
  have hle : k * size ≤ xs.length := by rw [h0]; exact Nat.mul_le_mul_right _ hk
  refine ⟨by rw [List.length_take]; exact Nat.min_eq_left hle, ?_⟩
  rcases hv with ⟨e1, rfl⟩ | ⟨g, o, c', cur, e1, hg, hc, h1, h2, h3⟩
  · cases e1
    obtain rfl : k = 0 := by omega
    exact Or.inl ⟨rfl, rfl⟩
  · cases e1
    refine Or.inr ⟨g, o, c, cur, rfl, hg, hc, by omega, h2, fun j u hj => ?_⟩
    rw [List.getElem?_take] at hj
    split at hj
    · exact h3 j u hj
    · cases hj
theorem run_append_rows {P : Program} (w : World) (t ty : TypeId) (base : Nat) (e : TypeId) (i : TypeInfo) (z : Value) (size bytes : Nat) (ht : P.underlying t = some (.slice e)) (hi : P.info? e = some i) (hz : i.zero = some z)
    (hsize : i.size = size) (hby : i.bytes = bytes) (hzs : z.cells.size = size) (hsz : 0 < size)
    (v : Value) (n : Nat) (xs : List Value) (hown : w.ownsRow base e size v n xs)
    (K : Nat → Prop) (a : Option Addr) (m c : Nat) (news : List Value) (hr : RowAt w K e size (.slice a m c) m news) (h1 : ∀ u ∈ news, u.oneCell' = true)
    (h63 : n + m ≤ maxLen) (hbytes : (n + m) * bytes ≤ 140737488355328) (hbase : base ≤ w.heap.size) :
    ∃ a' c' w', (Builtin.append_ #[t, t] ty #[v, .slice a m c]).run P w = .ok (.slice a' (n + m) c') w' ∧ w'.ownsRow base e size (.slice a' (n + m) c') (n + m) (xs ++ news) ∧ Below base w w' := by
  have hbel : ∀ {w' : World}, w.grownBy w' v.ownBlock → Below base w w' := fun {w'} hg => ⟨hg.os, hg.tape, hg.output, hg.size, fun k hk => hg.block k (by omega) (fun e => by
    obtain ⟨-, -, -, hlo⟩ := own_shape hown
    have := hlo k e.symm
    omega)⟩
  obtain ⟨h0, ⟨e1, rfl⟩ | ⟨g, o, c', cur, e1, hk, hc, h2, h3, h4⟩⟩ := hr
  · cases e1
    have hn : news = [] := List.eq_nil_of_length_eq_zero (by simpa using h0)
    subst hn
    obtain ⟨a', c', rfl, -⟩ := own_shape hown
    refine ⟨a', c', w, run_append_owned_none w base t ty e i size ht hi _ n xs hown, by simpa using hown, Below.refl _ _⟩
  · cases e1
    obtain ⟨v', w', hrun, ho, hg, -, -⟩ := run_append_own_at (P := P) w base t ty e i z size bytes ht hi hz hsize hby hzs hsz v n xs hown ⟨g, o, none⟩ m c news h0 (fun j u hj => by rw [addr_add]; exact h4 j u hj) h1 h63 hbytes hbase
    obtain ⟨a', c', rfl, -⟩ := own_shape ho
    exact ⟨a', c', w', hrun, ho, hbel hg⟩
theorem step_append_rows {P : Program} {ops : Array Oper} {o : Oper} {a : Act} {K : Act → World → Prop} {Q : Exit → Act → World → Prop} {E : Prop} (w : World) (hgd : o.guard = none) (s x : Operand) (t : TypeId)
    (ho : o.op = .call { callee := .builtin .append, args := #[s, x], argTypes := #[t, t] })
    (base : Nat) (e : TypeId) (i : TypeInfo) (z : Value) (size bytes : Nat) (ht : P.underlying t = some (.slice e)) (hi : P.info? e = some i) (hz : i.zero = some z)
    (hsize : i.size = size) (hby : i.bytes = bytes) (hzs : z.cells.size = size) (hsz : 0 < size)
    (v : Value) (n : Nat) (xs : List Value) (hs : a.eval s = v) (hown : w.ownsRow base e size v n xs)
    (Kp : Nat → Prop) (ad : Option Addr) (m c : Nat) (news : List Value) (hx : a.eval x = .slice ad m c) (hr : RowAt w Kp e size (.slice ad m c) m news) (h1 : ∀ u ∈ news, u.oneCell' = true)
    (h63 : n + m ≤ maxLen) (hbytes : (n + m) * bytes ≤ 140737488355328) (hbase : base ≤ w.heap.size)
    (h : ∀ a' c' w', w'.ownsRow base e size (.slice a' (n + m) c') (n + m) (xs ++ news) → Below base w w' → K (a.put o.dst (.slice a' (n + m) c')) w') :
    if Region.wanted o (yielded ops a.tmps) = true then Oper.wp P o a w K Q else E := by
  have hw : Region.wanted o (yielded ops a.tmps) = true := by simp [Region.wanted, hgd]
  rw [if_pos hw]
  obtain ⟨a', c', w', hrun, h2, h3⟩ := run_append_rows (P := P) w t o.type base e i z size bytes ht hi hz hsize hby hzs hsz v n xs hown Kp ad m c news hr h1 h63 hbytes hbase
  unfold Oper.wp execOp
  simp only [ho, resolve, invoke, builtin, Sem.run_bind, Sem.run_pure, Result.andThen_ok, List.map_toArray, List.map_cons, List.map_nil, hs, hx, hrun]
  exact h a' c' w' h2 h3
theorem BndsAt.len {W : World} {K : Nat → Prop} : ∀ {bs : List Bnd} {xs : List Value}, BndsAt W K bs xs → xs.length = bs.length * 10
  | [], _, .nil => rfl
  | _ :: bs, _, .cons n ps e _ vp cs xs hp h t => by
    have h8 : cs.length = 8 := by cases h; rfl
    have := t.len
    simp only [List.length_append, List.length_cons, h8, this]
    omega
theorem BndsAt.drop {W : World} {K : Nat → Prop} : ∀ {bs : List Bnd} {xs : List Value} (_ : BndsAt W K bs xs) (k : Nat), BndsAt W K (bs.drop k) (xs.drop (k * 10))
  | [], _, .nil, k => by simpa using BndsAt.nil
  | b :: bs, xs, h, 0 => by simpa using h
  | _ :: bs, _, .cons n ps e _ vp cs xs hp h t, k + 1 => by
    have h8 : cs.length = 8 := by cases h; rfl
    have h10 : (Value.string (tx n) :: vp :: cs).length = 10 := by simp [h8]
    have e1 : (Value.string (tx n) :: vp :: cs ++ xs).drop ((k + 1) * 10) = xs.drop (k * 10) := by
      rw [List.drop_append, h10]
      rw [List.drop_eq_nil_of_le (by omega), List.nil_append]
      congr 1
      omega
    rw [e1]
    exact t.drop k
theorem BndsAt.take {W : World} {K : Nat → Prop} : ∀ {bs : List Bnd} {xs : List Value} (_ : BndsAt W K bs xs) (k : Nat), BndsAt W K (bs.take k) (xs.take (k * 10))
  | [], _, .nil, k => by simpa using BndsAt.nil
  | b :: bs, xs, h, 0 => by simpa using BndsAt.nil
  | _ :: bs, _, .cons n ps e _ vp cs xs hp h t, k + 1 => by
    have h8 : cs.length = 8 := by cases h; rfl
    have h10 : (Value.string (tx n) :: vp :: cs).length = 10 := by simp [h8]
    have e1 : (Value.string (tx n) :: vp :: cs ++ xs).take ((k + 1) * 10) = Value.string (tx n) :: vp :: cs ++ xs.take (k * 10) := by
      rw [List.take_append, h10]
      rw [List.take_of_length_le (by omega)]
      congr 2
      omega
    rw [e1]
    exact .cons n ps e _ vp cs _ hp h (t.take k)
theorem MdOk.perm {m : Md} {bs : List Bnd} (h : MdOk m) (hp : bs.Perm m.2) : MdOk (m.1, bs) := by
  refine ⟨h.wd, fun b hb => h.wb b (hp.mem_iff.1 hb), ?_⟩
  have hs : ∀ {a b : List Bnd}, a.Perm b → sumN nB a = sumN nB b := fun {a b} q => by
    induction q with
    | nil => rfl
    | cons x _ ih => simp only [sumN, ih]
    | swap x y l => simp only [sumN]; omega
    | trans _ _ i1 i2 => exact i1.trans i2
  have := h.wt
  show 10 + m.1.length + (bs.length + sumN nB bs) ≤ 100000
  rw [hs hp, hp.length_eq]
  exact this
theorem turned_perm (bs : List Bnd) (t : Nat) : (bs.drop t ++ bs.take t).Perm bs := by
  have h := List.perm_append_comm (l₁ := bs.drop t) (l₂ := bs.take t)
  rwa [List.take_append_drop] at h
theorem turned_none {m : Md} (t : Nat) : scM (m.1, m.2.drop t ++ m.2.take t) = none ↔ scM m = none := scM_perm (turned_perm m.2 t)
theorem FoOk.of {m : Md} (h : MdOk m) : FoOk (scM m) := scM_ok (wfBs_of h.wb) h.wd
theorem mod_anew {md : Md} {bs : List Bnd} {b : Nat} {ad : Option Addr} {cd : Nat} {a6 : Option Addr} {c6 L : Nat} {xs : List Value} {W4 w6 : World} (v : Value) (hL : bs.length = L)
    (hd : RowAt W4 (fun g => g ≠ b) 36 2 (.slice ad md.1.length cd) md.1.length (declV md.1)) (ho : w6.ownsRow W4.heap.size 48 10 (.slice a6 L c6) L xs) (ht : BndsAt W4 (fun g => g ≠ b) bs xs) (hb : Below W4.heap.size W4 w6) (hz : b < W4.heap.size) :
    ModAt (w6.setCell ⟨b, 1, none⟩ v) (fun g => g ≠ b) (md.1, bs) ad cd a6 c6 := by
  subst hL
  have hs := set_grown w6 b 1 v
  have hk : ∀ g, g ≠ b → g < W4.heap.size → g ≠ b ∧ (w6.setCell ⟨b, 1, none⟩ v).heap[g]? = W4.heap[g]? := fun g hg lt => ⟨hg, (hs.block g (Nat.lt_of_lt_of_le lt hb.size) (by simpa using hg)).trans (hb.block g lt)⟩
  refine ⟨hd.move hk, xs, (RowAt.of (K := fun g => g ≠ b) ho (fun g hg => by omega)).past hs (fun g hg => hg), ht.move hk⟩
theorem turned_cells {md : Md} {W : World} {K : Nat → Prop} {xb : List Value} (n : Nat) (h : BndsAt W K md.2 xb) : BndsAt W K (md.2.drop n ++ md.2.take n) ((xb.drop (n * 10)).take ((md.2.length - n) * 10) ++ xb.take (n * 10)) := by
  have e : (xb.drop (n * 10)).take ((md.2.length - n) * 10) = xb.drop (n * 10) := List.take_of_length_le (by rw [List.length_drop, h.len, ← Nat.sub_mul]; exact Nat.le_refl _)
  rw [e]
  exact (h.drop n).append (h.take n)
theorem turned_check (md : Md) (n : Nat) (gn : n ≤ md.2.length) (b0 b : Nat) (hb0 : b0 < b) (ad : Option Addr) (cd : Nat) (xb : List Value) (a6 : Option Addr) (c6 : Nat) (W4 w6 : World) (hm : MdOk md)
    (hd : RowAt W4 (fun g => g < b0) 36 2 (.slice ad md.1.length cd) md.1.length (declV md.1)) (ht : BndsAt W4 (fun g => g < b0) md.2 xb) (ho : w6.ownsRow W4.heap.size 48 10 (.slice a6 (md.2.length - n + n) c6) (md.2.length - n + n) ((xb.drop (n * 10)).take ((md.2.length - n) * 10) ++ xb.take (n * 10))) (hb : Below W4.heap.size W4 w6) (hz : b < W4.heap.size) (hE : ErrT W4) (hg : 0 < b) (v : Value) :
    Calls Tryd.prog 11 #[.agg #[.slice ad md.1.length cd, .slice a6 md.2.length c6]] (w6.setCell ⟨b, 1, none⟩ v) fun e w' => e = .returned (.tuple #[.int .i64 (stN (scM (md.1, md.2.drop n ++ md.2.take n))).1, .string (tx (stN (scM (md.1, md.2.drop n ++ md.2.take n))).2)]) ∧ Below (w6.setCell ⟨b, 1, none⟩ v).heap.size (w6.setCell ⟨b, 1, none⟩ v) w' := by
  have hl : (md.2.drop n ++ md.2.take n).length = md.2.length := (turned_perm md.2 n).length_eq
  rw [show md.2.length - n + n = md.2.length by omega] at ho
  have hlow : ∀ g, g < b0 → g < W4.heap.size → g ≠ b ∧ W4.heap[g]? = W4.heap[g]? := fun g h1 _ => ⟨by omega, rfl⟩
  have hM := mod_anew v hl (hd.move hlow) ho ((turned_cells n ht).move hlow) hb hz
  have hE6 : ErrT w6 := hE.below hb
  have hE7 : ErrT (w6.setCell ⟨b, 1, none⟩ v) := by
    unfold ErrT at hE6 ⊢
    rw [(set_grown w6 b 1 v).cell_far _ (Bl hE6) (by simp; omega)]
    exact hE6
  have h := check_any (md.1, md.2.drop n ++ md.2.take n) (hm.perm (turned_perm md.2 n)) ad cd a6 c6 _ _ hM hE7
  rw [show ((md.1, md.2.drop n ++ md.2.take n) : Md).2.length = md.2.length from hl] at h
  exact h
theorem tx_empty (x : Nm) : (tx x).toList.isEmpty = x.isEmpty := by
  rw [ByteArray.toList_eq]
  rfl
theorem order_facts {md : Md} (hm : MdOk md) (n : Nat) {er : Int} {nn : Nm} {er2 : Int} {nn2 : Nm} (h1 : stN (scM md) = (er, nn)) (h2 : stN (scM (md.1, md.2.drop n ++ md.2.take n)) = (er2, nn2)) :
    ((er == 0) = true ∧ (er2 == 0) = true ∧ (tx nn).toList.isEmpty = true) ∨ ((er == 0) = false ∧ (er2 == 0) = false ∧ (tx nn).toList.isEmpty = false) := by
  rw [tx_empty]
  cases hfo : scM md with
  | none =>
    rw [hfo] at h1
    rw [(turned_none (m := md) n).2 hfo] at h2
    cases h1; cases h2
    exact Or.inl ⟨rfl, rfl, rfl⟩
  | some fo =>
    rw [hfo] at h1
    obtain ⟨a, b⟩ := FoOk.of hm fo.1 fo.2 hfo
    cases hfo2 : scM (md.1, md.2.drop n ++ md.2.take n) with
    | none => rw [(turned_none (m := md) n).1 hfo2] at hfo; cases hfo
    | some fo2 =>
      rw [hfo2] at h2
      have c := (FoOk.of (hm.perm (turned_perm md.2 n)) fo2.1 fo2.2 hfo2).1
      obtain ⟨f1, f2⟩ := fo
      obtain ⟨g1, g2⟩ := fo2
      cases h1; cases h2
      exact Or.inr ⟨by simpa using a, by simpa using c, by simpa using b⟩
end Go.Proofs.YtdjcdecbmeickaaDoor
namespace Go.Proofs.YtdjcdecbmeickaaDoor
set_option maxHeartbeats 64000000
set_option maxRecDepth 100000
open Go.RowKit Go.Lib
theorem sorder_walk (s : ByteArray) (t : Int) (w : World) (hE : ErrT w) :
    Calls Tryd.prog 4 #[.string s, .int .i64 t] w fun e w' => e = .returned (.bool true) ∧ Below w.heap.size w w' := by
  have HE0 := Hd hE
  clear hE
  go_enter Tryd.func4, Tryd.ntmps4
  go_wp2_with fail
  refine (sawake_any w HE0.out).mono ?_
  rintro e w1 ⟨rfl, hb⟩
  have H1 := Hd (Ai hb (HE0.out.below hb))
  clear hb
  by_cases g3 : 3000 < s.size
  · have f3 : decide ((3000 : Int) < (s.size : Int)) = true := decide_eq_true (by omega)
    go_wp2_with fail
    go_ret
    exact ⟨rfl, H1.out.1⟩
  have f3 : decide ((3000 : Int) < (s.size : Int)) = false := decide_eq_false (by omega)
  have HP := Hd (told_any s (by omega) w1)
  have hsl : s.data.toList.length ≤ 100000 := by
    have := size_eq s
    omega
  go_wp2_with fail
  clear f3
  refine HP.out.mono ?_
  rintro e w2 ⟨hv, hb2⟩
  have HV := Hd (Ai hv (onB' H1.out.1 hb2))
  clear hb2 hv HP
  cases ho : modL s.data.toList with
  | bad er ln =>
    have hv := HV.out.1
    rw [ho] at hv
    obtain ⟨hne, rfl⟩ := hv
    have f4 : (er != 0) = true := by simpa using hne
    have hx := Hd (onB' HV.out.2 ((Below.refl w2.heap.size w2).alloc Nr (.cells #[.slice none 0 0, .slice none 0 0] 26)))
    go_wp2_with fail
    go_ret
    exact ⟨rfl, hx.out⟩
  | ok md la ra =>
    have hv := HV.out.1
    rw [ho] at hv
    obtain ⟨ad, cd, ab, cb, rfl, hm⟩ := hv
    have hok := modL_ok hsl ho
    have hx := (Below.refl w2.heap.size w2).alloc Nr (.cells #[.slice ad md.1.length cd, .slice ab md.2.length cb] 26)
    have hw1x := HV.out.2
    have HEW := Hd (show ErrT (w2.alloc (.cells #[.slice ad md.1.length cd, .slice ab md.2.length cb] 26)) from HE0.out.below (onB' HV.out.2 hx))
    have HX := Hd (Ai (onB' HV.out.2 hx) (Ai (BoxW.alloc w2 #[.slice ad md.1.length cd, .slice ab md.2.length cb] 26) (hm.below hx)))
    have HK := Hd hok
    clear hm hx hok hsl
    by_cases gt0 : t < 0
    · have f5 : decide (t < 0) = true := decide_eq_true gt0
      go_wp2_with fail
      go_ret
      exact ⟨rfl, HX.out.1⟩
    obtain ⟨n, rfl⟩ : ∃ n : Nat, t = (n : Int) := ⟨t.toNat, by omega⟩
    have f5 : decide ((n : Int) < 0) = false := decide_eq_false gt0
    by_cases gtl : md.2.length < n
    · have f6 : decide ((md.2.length : Int) < (n : Int)) = true := decide_eq_true (by omega)
      go_wp2_with fail
      go_ret
      exact ⟨rfl, HX.out.1⟩
    have f6 : decide ((md.2.length : Int) < (n : Int)) = false := decide_eq_false (by omega)
    go_upto_region 8 with fail
    generalize (w2.alloc (.cells #[.slice ad md.1.length cd, .slice ab md.2.length cb] 26)) = W at *
    clear hw1x
    have HC := Hd (check_any md HK.out.1 ad cd ab cb _ W HX.out.2.2 HEW.out)
    have y0 : W.cell? ⟨w2.heap.size, 0, none⟩ = some (.slice ad md.1.length cd) := HX.out.2.1.1 0 _ rfl
    have y1 : W.cell? ⟨w2.heap.size, 1, none⟩ = some (.slice ab md.2.length cb) := HX.out.2.1.1 1 _ rfl
    go_wp2_with fail
    refine HC.out.mono ?_
    rintro e w3 ⟨rfl, hb3⟩
    clear y0 y1
    have H3 := Hd (Ai (HX.out.2.1.below hb3) (Ai (HX.out.2.2.below hb3) (Ai (onB' HX.out.1 hb3) (HEW.out.below hb3))))
    clear hb3 HC
    have x0 : w3.cell? ⟨w2.heap.size, 0, none⟩ = some (.slice ad md.1.length cd) := H3.out.1.1 0 _ rfl
    have x1 : w3.cell? ⟨w2.heap.size, 1, none⟩ = some (.slice ab md.2.length cb) := H3.out.1.1 1 _ rfl
    obtain ⟨er, nn, hst⟩ : ∃ er nn, stN (scM md) = (er, nn) := ⟨_, _, rfl⟩
    rw [hst]
    have HST := Hd hst
    clear hst
    have h1x := (Below.refl w3.heap.size w3).alloc Nr (.cells #[.slice ad md.1.length cd, .slice ab md.2.length cb] 26)
    have HN := Hd (Ai h1x (BoxW.alloc w3 #[.slice ad md.1.length cd, .slice ab md.2.length cb] 26))
    have hlt2 : w2.heap.size < w3.heap.size := Bl x1
    clear h1x
    go_upto_region 10 with fail
    generalize (w3.alloc (.cells #[.slice ad md.1.length cd, .slice ab md.2.length cb] 26)) = W4 at *
    have d1 : W4.cell? ⟨w2.heap.size, 1, none⟩ = some (.slice ab md.2.length cb) := later' HN.out.1 x1
    have e1 : W4.cell? ⟨w3.heap.size, 1, none⟩ = some (.slice ab md.2.length cb) := HN.out.2.1 1 _ rfl
    have hz4 : w3.heap.size < W4.heap.size := Bl e1
    have H4 := Hd (Ai (onB' H3.out.2.2.1 HN.out.1) (H3.out.2.1.below HN.out.1))
    clear x0 x1
    obtain ⟨xb, hbr, hbt⟩ := H4.out.2.br
    have HBt := Hd hbt
    have HGl := Hd (show 0 < w3.heap.size from Bl H3.out.2.2.2)
    obtain ⟨i0, hi0, hz0, hzs, hzb⟩ := info_parts Tryd.info_bind
    have hz24 : w2.heap.size < W4.heap.size := by omega
    have gn : n ≤ md.2.length := by omega
    have hwt := HK.out.1.wt
    have hroom := hbr.room
    have hncb : (n : Int) ≤ (cb : Int) := by omega
    have hone := hbt.one
    have hx5 := (((Below.refl W4.heap.size W4).alloc Nr (.cells #[] 48))).drew
    have ho5 : (W4.alloc (.cells #[] 48)).drew.ownsRow W4.heap.size 48 10 (.slice (some ⟨W4.heap.size, 0, none⟩) 0 0) 0 [] := World.ownsRow_lit W4 #[] 0 Nr (Nat.zero_le _) rfl
    have hr5 := ((hbr.cut n md.2.length gn Nr).move (W' := (W4.alloc (.cells #[] 48)).drew) (K' := fun _ => True) fun g _ lt => ⟨trivial, hx5.block g lt⟩)
    have m5 : 0 + (md.2.length - n) ≤ maxLen := by unfold maxLen; omega
    have m6 : (0 + (md.2.length - n)) * 176 ≤ 140737488355328 := by omega
    have h15 : ∀ u ∈ (xb.drop (n * 10)).take ((md.2.length - n) * 10), u.oneCell' = true := fun u hu => hone u (List.mem_of_mem_drop (List.mem_of_mem_take hu))
    have hf5 := hbr.front n gn
    have m7 : (md.2.length - n) + n ≤ maxLen := by unfold maxLen; omega
    have m8 : ((md.2.length - n) + n) * 176 ≤ 140737488355328 := by omega
    have h16 : ∀ u ∈ xb.take (n * 10), u.oneCell' = true := fun u hu => hone u (List.mem_of_mem_take hu)
    go_region_law (first
      | (refine step_append_rows _ rfl _ _ 24 rfl W4.heap.size 48 i0 (.agg #[.string ⟨#[]⟩, .slice none 0 0, .int .i64 0, .string ⟨#[]⟩, .bool false, .int .u64 0, .slice none 0 0, .slice none 0 0, .slice none 0 0, .slice none 0 0]) 10 176 Tryd.underlying24 hi0 hz0 hzs hzb rfl (by decide) (.slice (some ⟨W4.heap.size, 0, none⟩) 0 0) 0 [] rfl ho5 _ _ _ _ _ rfl hr5 h15 m5 m6 hx5.size ?_
         intro a5 c5 w5 o5 b5
         simp only [Nat.zero_add, List.nil_append] at o5
         have B5 := hx5.trans b5
         have d5 := later' B5 d1
         have e5 := later' B5 e1)
      | (refine step_append_rows _ rfl _ _ 24 rfl W4.heap.size 48 i0 (.agg #[.string ⟨#[]⟩, .slice none 0 0, .int .i64 0, .string ⟨#[]⟩, .bool false, .int .u64 0, .slice none 0 0, .slice none 0 0, .slice none 0 0, .slice none 0 0]) 10 176 Tryd.underlying24 hi0 hz0 hzs hzb rfl (by decide) (.slice a5 (md.2.length - n) c5) (md.2.length - n) _ rfl o5 _ _ _ _ _ rfl (hf5.move (W' := w5) (K' := fun _ => True) fun g _ lt => ⟨trivial, B5.block g lt⟩) h16 m7 m8 B5.size ?_
         intro a6 c6 w6 o6 b6
         have B6 := B5.trans b6
         have d6 := later' B6 d1
         have e6 := later' B6 e1
         have z6 : w6.frozen? ⟨w3.heap.size, 1, none⟩ = false := (HN.out.2.below B6).2 1))
    all_goals
      have H6 := Hd (Ai o6 (Ai B6 (Ai e6 z6)))
      clear o6 b6 B6 d6 e6 z6 o5 b5 B5 d5 e5
      have HC2 := Hd (turned_check md n gn w2.heap.size w3.heap.size hlt2 ad cd xb a6 c6 W4 w6 HK.out.1 H4.out.2.dr HBt.out H6.out.1 H6.out.2.1 hz4 (H3.out.2.2.2.below HN.out.1) HGl.out (.slice a6 md.2.length c6))
      obtain ⟨er2, nn2, hst2⟩ : ∃ er2 nn2, stN (scM (md.1, md.2.drop n ++ md.2.take n)) = (er2, nn2) := ⟨_, _, rfl⟩
      rw [hst2] at HC2
      have HOf := Hd (order_facts HK.out.1 n HST.out hst2)
      clear hst2
      have hs7 := set_grown w6 w3.heap.size 1 (.slice a6 md.2.length c6)
      have h7 : Below w.heap.size w (w6.setCell ⟨w3.heap.size, 1, none⟩ (.slice a6 md.2.length c6)) := below_of_new (onB' H4.out.1 H6.out.2.1) hs7 H3.out.2.2.1.size
      have f0 : (w6.setCell ⟨w3.heap.size, 1, none⟩ (.slice a6 md.2.length c6)).cell? ⟨w3.heap.size, 0, none⟩ = some (.slice ad md.1.length cd) := (at_oth _ _ _ _ _ (by decide)).trans (later' H6.out.2.1 (HN.out.2.1 0 _ rfl))
      have f1 : (w6.setCell ⟨w3.heap.size, 1, none⟩ (.slice a6 md.2.length c6)).cell? ⟨w3.heap.size, 1, none⟩ = some (.slice a6 md.2.length c6) := at_sam _ H6.out.2.2.1
      have H7 := Hd h7
      clear hs7 h7
      generalize (w6.setCell ⟨w3.heap.size, 1, none⟩ (.slice a6 md.2.length c6)) = W7 at *
      clear hr5 hf5 h15 h16 hone hbr hbt ho5 hx5 hi0 hz0 hzs hzb m5 m6 m7 m8
      go_wp2_with fail
      all_goals
        refine HC2.out.mono ?_
        rintro e w8 ⟨rfl, hb8⟩
        have H8 := Hd (onB' H7.out hb8)
        clear hb8 HC2 f0 f1
        rcases HOf.out with ⟨k1, k2, k3⟩ | ⟨k1, k2, k3⟩
        · go_wp2_with fail
          go_ret
          exact ⟨by simp, H8.out⟩
        · go_wp2_with fail
          go_ret
          exact ⟨by simp, H8.out⟩
end Go.Proofs.YtdjcdecbmeickaaDoor
