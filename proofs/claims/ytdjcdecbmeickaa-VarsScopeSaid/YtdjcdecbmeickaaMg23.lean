import Derived.Lib.ParseIntB
import Derived.Lib.AtoiAll
import Derived.Lib.ItoaNum
import Derived.Lib.ParseIntBTie
import Derived.Lib.ParseIntBCases
import Derived.WalkKit
import Derived.WalkSpells
import Derived.WalkLawsBesides
import Derived.Deep.RegionHeld3
import Derived.Deep.DeepCutAuto
import Derived.KernelRfl
import Derived.Lib.Hide
import Derived.Lib.ItoaWalk
import Derived.Lib.LaidTab
import Derived.Stop.LaidErr
import Derived.Laws.Strings3
import Derived.Maps.OwnSet
import Derived.Maps.OwnOps
import Derived.Maps.Views
import Derived.Deep.AppendLies
import Derived.Laws.EntriesVeiled
import Derived.OpenShut
import Derived.ProofKit
import Derived.RegionTactic
import Derived.BigRegion
import Derived.Lib.ConvBytes
import Derived.Lib.AtoiAllMem
import Derived.Laws.Closers25
import Derived.Laws.Closers25b
import Derived.Shelf.Strings.SlTrimAscii
import Derived.Laws.StructEq
import Derived.Deep.MidRow
import Derived.WalkMore
import Derived.Deep.QuietTactic
import Derived.BigQuiet
import Derived.Shelf.Abstract
import Derived.RegionDies
import Derived.Deep.RegionHeldLaw
import Derived.Lib.QuietBelow
import Derived.Shelf.SlMaps.Clone
import Derived.Great.Walk
import Derived.Deep.Onto
import Derived.RangeFuncKeeps
import Derived.RangeFuncBound
import Derived.StillTailTactics
import Derived.RangeFuncNested
import Derived.RangeFuncCalls
import Derived.RangeFuncLeaves
import Derived.OwnWalkIn
import Derived.TacticsInMore
import Derived.RangeFuncWrites
import Derived.LoopNIn
import Derived.LoopIn
import Derived.Maps.OwnIn
import Derived.Shelf.RegionOpen
import Derived.Shelf.LaysM
import Derived.Shelf.Strconv.Clone
import Derived.LaidEql
import Derived.Stop.Asserts
import Derived.RowKitTokens
import Derived.Deep.RegionHeld
import Derived.Lib.ItoaLen
import Derived.Defers
import Derived.Recover
import Derived.Laws.DeepStrings4
import Derived.Laws.OwnMore
import Derived.Test.YtdjcdecbmeickaaMg19
namespace Go.Proofs.Ytdjcdecbmeickaa
set_option maxHeartbeats 64000000
set_option maxRecDepth 100000
open Go.RowKit Go.Lib
theorem twiceL_snoc (x : Nm) : ∀ (l seen : List Nm), twiceL seen (l ++ [x]) = (twiceL seen l).or (if x ∈ seen ++ l then some x else none)
  | [], seen => by
    show (if x ∈ seen then some x else twiceL (seen ++ [x]) []) = _
    simp [twiceL]
  | y :: r, seen => by
    show (if y ∈ seen then some y else twiceL (seen ++ [y]) (r ++ [x])) = (if y ∈ seen then some y else twiceL (seen ++ [y]) r).or _
    by_cases g : y ∈ seen
    · rw [if_pos g, if_pos g]; rfl
    · rw [if_neg g, if_neg g, twiceL_snoc x r (seen ++ [y])]
      simp
theorem twF_snoc (l : List Nm) (x : Nm) : twF (l ++ [x]) = (twF l).or (if x ∈ l then some (5, x) else none) := by
  unfold twF
  rw [twiceL_snoc]
  cases twiceL [] l with
  | some y => rfl
  | none =>
    by_cases g : x ∈ l
    · simp [g]
    · simp [g]
theorem or_nil_l (a : Fo) : a.or none = a := by cases a <;> rfl
theorem sfault_any (b : Nat) (st : Fo) (vc : Value) (er : Int) (he : er ≠ 0) (n : Nm) (w : World) (h : SAt w b st vc) : Calls Try.prog 27 #[.pointer (some ⟨b, 0, none⟩), .int .i64 er, .string (tx n)] w fun e w' => e = .returned (.tuple #[]) ∧ SAt w' b (st.or (some (er, n))) vc ∧ w.grownBy w' (some b) := by
  have q0 : w.cell? ⟨b, 0, none⟩ = some _ := h.box.1 0 _ rfl
  have q1 : w.cell? ⟨b, 1, none⟩ = some _ := h.box.1 1 _ rfl
  have z0 := h.box.2 0
  have z1 := h.box.2 1
  have HB := Hd h.box
  have HO := Hd h.ok
  cases st with
  | none =>
    have e0 : (stN none).1 = 0 := rfl
    have HF := Hd (show SAt ((w.setCell ⟨b, 0, none⟩ (.int .i64 er)).setCell ⟨b, 1, none⟩ (.string (tx n))) b (some (er, n)) vc from ⟨(h.box.set 0 (show 0 < 3 by decide) (.int .i64 er)).set 1 (show 1 < 3 by decide) (.string (tx n)), fun x hx => by cases hx; exact he⟩)
    show Calls _ _ _ _ fun e w' => e = .returned (.tuple #[]) ∧ SAt w' b (some (er, n)) vc ∧ _
    rw [e0] at q0
    clear h HO
    go_enter Try.func27, Try.ntmps27
    go_wp2_with fail
    go_end0
    exact ⟨rfl, HF.out, Gt (set_grown ..) (set_grown ..)⟩
  | some x =>
    have hx := HO.out x rfl
    have f0 : ((stN (some x)).1 == 0) = false := by simpa [stN] using hx
    have HF := Hd h
    show Calls _ _ _ _ fun e w' => e = .returned (.tuple #[]) ∧ SAt w' b (some x) vc ∧ _
    clear h HO hx
    generalize (stN (some x)).1 = ee at *
    go_enter Try.func27, Try.ntmps27
    go_wp2_with fail
    go_end0
    exact ⟨rfl, HF.out, grown_of Br⟩
theorem row_take {W : World} {K : Nat → Prop} {e : TypeId} {a : Option Addr} {c : Nat} {l : List Nm} (h : RowAt W K e 1 (.slice a l.length c) l.length (namesV l)) {i : Nat} (hi : i ≤ l.length) : RowAt W K e 1 (.slice a (l.take i).length c) (l.take i).length (namesV (l.take i)) := by
  have hz : (l.take i).length = i := by rw [List.length_take]; omega
  obtain ⟨h0, ⟨h1, h2⟩ | ⟨g, o, c', cur, h1, h2, h3, h4, h5, h6⟩⟩ := h
  · obtain ⟨rfl, q, rfl⟩ := Value.slice.inj h1
    refine ⟨by simp [namesV], Or.inl ⟨by rw [hz]; congr 1; omega, by rw [hz]; omega⟩⟩
  · obtain ⟨rfl, -, rfl⟩ := Value.slice.inj h1
    refine ⟨by simp [namesV], Or.inr ⟨g, o, c, cur, rfl, h2, h3, by omega, h5, fun j u hj => h6 j u ?_⟩⟩
    have hl : j < (l.take i).length := by
      rcases Nat.lt_or_ge j (l.take i).length with q | q
      · exact q
      · rw [List.getElem?_eq_none (by simpa [namesV] using q)] at hj; cases hj
    have hl2 : j < l.length := by omega
    rw [namesV_get hl] at hj
    rw [namesV_get hl2, ← hj, List.getElem_take]
theorem scon_any (b : Nat) (st : Fo) (cl : List Nm) (ac : Option Addr) (cc : Nat) (K : Nat → Prop) (n : Nm) (w : World) (h : SAt w b st (.slice ac cl.length cc)) (hr : RowAt w K 9 1 (.slice ac cl.length cc) cl.length (namesV cl)) : Calls Try.prog 58 #[.pointer (some ⟨b, 0, none⟩), .string (tx n)] w fun e w' => e = .returned (.tuple #[]) ∧ SAt w' b (st.or (hasF cl n)) (.slice ac cl.length cc) ∧ w.grownBy w' (some b) := by
  have q2 : w.cell? ⟨b, 2, none⟩ = some _ := h.box.1 2 _ rfl
  have HS := Hd h
  have HI := Hd (in_any cl n ac cc K w hr)
  clear h
  go_enter Try.func58, Try.ntmps58
  go_wp2_with fail
  refine HI.out.mono ?_
  rintro e w1 ⟨rfl, hb⟩
  have HS1 := Hd (HS.out.later hb)
  have HG := Hd (grown_of (b := b) hb)
  clear hb HI
  by_cases g : n ∈ cl
  · have hd : decide (n ∈ cl) = true := decide_eq_true g
    rw [hd]
    have hf : hasF cl n = none := if_pos g
    go_wp2_with fail
    go_end0
    rw [hf, or_nil_l]
    exact ⟨rfl, HS1.out, HG.out⟩
  · have hd : decide (n ∈ cl) = false := decide_eq_false g
    rw [hd]
    have hf : hasF cl n = some (4, n) := if_neg g
    have HF := Hd (sfault_any b st (.slice ac cl.length cc) 4 (by decide) n w1 HS1.out)
    go_wp2_with fail
    refine HF.out.mono ?_
    rintro e w2 ⟨rfl, hs, hg⟩
    have HE := Hd (Ai hs (Gt HG.out hg))
    clear hs hg
    go_wp2_with fail
    go_end0
    rw [hf]
    exact ⟨rfl, HE.out.1, HE.out.2⟩
end Go.Proofs.Ytdjcdecbmeickaa
namespace Go.Proofs.Ytdjcdecbmeickaa
set_option maxHeartbeats 64000000
set_option maxRecDepth 100000
open Go.RowKit Go.Lib
theorem or_assoc_f (a b c : Fo) : (a.or b).or c = a.or (b.or c) := by cases a <;> rfl
theorem stwice_any (b : Nat) (st : Fo) (vc : Value) (l : List Nm) (a : Option Addr) (c : Nat) (K : Nat → Prop) (hK : ∀ g, K g → g ≠ b) (w : World) (h : SAt w b st vc) (hr : RowAt w K 9 1 (.slice a l.length c) l.length (namesV l)) : Calls Try.prog 25 #[.pointer (some ⟨b, 0, none⟩), .slice a l.length c] w fun e w' => e = .returned (.tuple #[]) ∧ SAt w' b (st.or (twF l)) vc ∧ w.grownBy w' (some b) := by
  have HS := Hd h
  have HO := Hd hr
  have hmx := hr.cap
  unfold maxLen at hmx
  have hcap : l.length ≤ c := by
    obtain ⟨-, ⟨h1, h2⟩ | ⟨g, o, c', cur, h1, -, -, h4, -⟩⟩ := hr
    · obtain ⟨-, q, -⟩ := Value.slice.inj h1; omega
    · obtain ⟨-, -, rfl⟩ := Value.slice.inj h1; exact h4
  clear h hr
  go_enter Try.func25, Try.ntmps25
  go_wp2_with fail
  go_loopw [4] (fun s2 wr => ∃ j : Nat, j ≤ l.length ∧ s2 = .int .i64 j ∧ SAt wr b (st.or (twF (l.take j))) vc ∧ w.grownBy wr (some b)) (fun s2 _ => l.length - (RowKit.intOf s2).toNat)
  case atStart => exact ⟨0, Nat.zero_le _, rfl, by rw [List.take_zero, show twF [] = none from rfl, or_nil_l]; exact HS.out, grown_of Br⟩
  case round =>
    obtain ⟨j, hj, rfl, hs, hg⟩ := hrel
    have HR := Hd (Ai hs hg)
    have HO2 := Hd (HO.out.past hg hK)
    clear hs hg
    by_cases gj : j < l.length
    · have gj' : (j : Int) < (l.length : Int) := by omega
      have hjc : (j : Int) ≤ (c : Int) := by omega
      obtain ⟨g1, o1, ea1, k1, m1', -, ht1⟩ := HO2.out.at (by omega)
      subst ea1
      have p0 := ht1 j _ (namesV_get gj)
      have HT := Hd (show l.take (j + 1) = l.take j ++ [l[j]] from List.take_succ_eq_append_getElem gj)
      have hz : (l.take j).length = j := by rw [List.length_take]; omega
      have hI : ∀ W, Below wr.heap.size wr W → Calls Try.prog 17 #[.slice (some ⟨g1, o1, none⟩) j c, .string (tx l[j])] W fun e w' => e = .returned (.bool (decide (l[j] ∈ l.take j))) ∧ Below W.heap.size W w' := fun W hb => by
        have h := in_any (l.take j) l[j] (some ⟨g1, o1, none⟩) c K W (row_take (HO2.out.move fun g hk lt => ⟨hk, hb.block g lt⟩) hj)
        rwa [hz] at h
      have HI := Hd hI
      clear hI ht1 hz
      generalize l[j] = tk at *
      have ej : IntKind.i64.wrap ((j : Int) + 1) = (j : Int) + 1 := by rw [IntKind.wrap_i64]; omega
      have b0 : (0 : Int) ≤ (j : Int) := by omega
      go_wp2_with fail
      go_region_with (go_at_call 17; refine (HI.out _ (by first | exact Br | exact Br.drew | exact below_dN Br _)).mono ?_; rintro e w1 ⟨rfl, hb⟩; have HB1 := Hd (show Below wr.heap.size wr w1 from ⟨hb.os, hb.tape, hb.output, hb.size, hb.block⟩); clear hb)
      have p1 := later' HB1.out p0
      have HT2 := Hd (show twF (l.take (j + 1)) = (twF (l.take j)).or (if tk ∈ l.take j then some (5, tk) else none) by rw [HT.out, twF_snoc])
      have HS1 := Hd (HR.out.1.later HB1.out)
      have HG1 := Hd (Gt HR.out.2 (grown_of (b := b) HB1.out))
      by_cases g : tk ∈ l.take j
      · rw [decide_eq_true g]
        have HF := Hd (sfault_any b (st.or (twF (l.take j))) vc 5 (by decide) tk w1 HS1.out)
        go_wp2_with fail
        refine HF.out.mono ?_
        rintro e w2 ⟨rfl, hs, hg⟩
        have HE := Hd (Ai hs (Gt HG1.out hg))
        clear hs hg
        go_wp2_with fail
        refine ⟨⟨j + 1, by omega, by go_num, ?_, HE.out.2⟩, by simp [RowKit.intOf]; omega⟩
        rw [HT2.out, if_pos g]
        have h := HE.out.1
        rwa [or_assoc_f] at h
      · rw [decide_eq_false g]
        go_wp2_with fail
        refine ⟨⟨j + 1, by omega, by go_num, ?_, HG1.out⟩, by simp [RowKit.intOf]; omega⟩
        rw [HT2.out, if_neg g, or_nil_l]
        exact HS1.out
    · obtain rfl : j = l.length := by omega
      go_wp2_with fail
      go_end0
      have h := HR.out.1
      rw [List.take_length] at h
      exact ⟨rfl, h, HR.out.2⟩
end Go.Proofs.Ytdjcdecbmeickaa
namespace Go.Proofs.Ytdjcdecbmeickaa
set_option maxHeartbeats 64000000
set_option maxRecDepth 100000
open Go.RowKit Go.Lib
theorem snames_any (bs : List Bnd) (a : Option Addr) (c : Nat) (K K2 : Nat → Prop) (xb : List Value) (w : World) (hn : bs.length ≤ 100000) (hr : RowAt w K 36 10 (.slice a bs.length c) bs.length xb) (hb : BndsAt w K2 bs xb) :
    Calls Try.prog 26 #[.slice a bs.length c] w fun e w' => (∃ v, e = .returned v ∧ w'.ownsRow w.heap.size 9 1 v bs.length (namesV (bNames bs))) ∧ Below w.heap.size w w' := by
  have HO := Hd (Ai hr hb)
  obtain ⟨i0, hi0, hz0, hzs, hzb⟩ := info_parts Try.info_text
  clear hr hb
  go_enter Try.func26, Try.ntmps26
  go_wp2_with fail
  go_loopw [3, 4] (fun s2 s3 wr => ∃ (j : Nat) (vv : Value), j ≤ bs.length ∧ vv = s2 ∧ s3 = .int .i64 j ∧ wr.ownsRow w.heap.size 9 1 vv j (namesV (bNames (bs.take j))) ∧ Below w.heap.size w wr) (fun _ s3 _ => bs.length - (RowKit.intOf s3).toNat)
  case atStart => exact ⟨0, _, Nat.zero_le _, rfl, rfl, World.ownsRow_nil _ _ _ _, Below.refl _ _⟩
  case round =>
    obtain ⟨j, vv, hj, rfl, rfl, hown, hbr⟩ := hrel
    obtain ⟨aa, cc, rfl, hlow⟩ := own_shape hown
    have HW := Hd (Ai hown (Ai hbr hlow))
    clear hown hbr hlow
    by_cases gj : j < bs.length
    · have gj' : (j : Int) < (bs.length : Int) := by omega
      obtain ⟨vq, q1, q2, q3, q4, q5, q6, q7, q8, -, -, z0, -⟩ := HO.out.2.at j gj
      obtain ⟨g1, o1, ea1, k1, m1', -, ht1⟩ := HO.out.1.at (by omega)
      subst ea1
      have p0 := later' HW.out.2.1 (ht1 _ _ z0)
      simp only [Nat.add_zero] at p0
      have hwz : w.heap.size ≤ wr.heap.size := HW.out.2.1.size
      have HT := Hd (show namesV (bNames (bs.take (j + 1))) = namesV (bNames (bs.take j)) ++ [.string (tx bs[j].1)] by rw [List.take_succ_eq_append_getElem gj]; simp only [namesV, bNames, List.map_append, List.map_cons, List.map_nil])
      generalize bs[j].1 = nm at *
      have ej : IntKind.i64.wrap ((j : Int) + 1) = (j : Int) + 1 := by rw [IntKind.wrap_i64]; omega
      have b0 : (0 : Int) ≤ (j : Int) := by omega
      have one1 : ∀ u ∈ [Value.string (tx nm)], u.oneCell' = true := by intro u hu; simp at hu; rw [hu]; rfl
      have m9 : j + 1 ≤ maxLen := by unfold maxLen; omega
      have m8 : (j + 1) * 16 ≤ 140737488355328 := by omega
      clear ht1 z0
      go_wp2_with (at_builtin; refine wpList_append_lies _ rfl _ _ 22 rfl w.heap.size 9 i0 (.string ⟨#[]⟩) 1 16 Try.underlying22 hi0 hz0 hzs hzb rfl (by decide) (.slice aa j cc) j (namesV (bNames (bs.take j))) rfl (HW.out.1.alloc _) ⟨wr.heap.size, 0, none⟩ 1 1 [.string (tx nm)] rfl rfl (World.news_of_block (heap_alloc_new _ _)) one1 (by decide) m9 m8 (by simp; omega) _ rfl ?_; intro g9 cap9 w9 o1 o2 o3 o4)
      refine ⟨⟨j + 1, _, by omega, rfl, by go_num, by rw [HT.out]; exact o1, ?_⟩, by simp [RowKit.intOf]; omega⟩
      have hx := onB' HW.out.2.1 ((Below.refl wr.heap.size wr).alloc Nr (.cells #[.string (tx nm)] 9))
      exact ⟨o2.os.trans hx.os, o2.tape.trans hx.tape, o2.output.trans hx.output, Nt hx.size o2.size, fun k hk => (o2.block k (by have := hx.size; omega) (fun e => by have := HW.out.2.2 k e.symm; omega)).trans (hx.block k hk)⟩
    · obtain rfl : j = bs.length := by omega
      go_wp2_with fail
      refine bodyPost_ret (v := .slice aa bs.length cc) (by simp [results, Try.results26, go_sem]) rfl ?_
      have h := HW.out.1
      rw [List.take_length] at h
      exact ⟨⟨_, rfl, h⟩, HW.out.2.1⟩
end Go.Proofs.Ytdjcdecbmeickaa
namespace Go.Proofs.Ytdjcdecbmeickaa
set_option maxHeartbeats 64000000
set_option maxRecDepth 100000
open Go.RowKit Go.Lib
theorem sjoin_any (l r : List Nm) (a b : Value) (K K2 : Nat → Prop) (w : World) (hn : l.length + r.length ≤ 100000) (hl : RowAt w K 9 1 a l.length (namesV l)) (hr : RowAt w K2 9 1 b r.length (namesV r)) :
    Calls Try.prog 39 #[a, b] w fun e w' => (∃ v, e = .returned v ∧ w'.ownsRow w.heap.size 9 1 v (l.length + r.length) (namesV (l ++ r))) ∧ Below w.heap.size w w' := by
  obtain ⟨aa, ca, rfl⟩ := hl.sl
  obtain ⟨ab, cb, rfl⟩ := hr.sl
  have ba := (Below.refl w.heap.size w).alloc Nr (.cells #[] 9)
  have HA : (w.alloc (.cells #[] 9)).ownsRow w.heap.size 9 1 (.slice (some ⟨w.heap.size, 0, none⟩) 0 0) 0 [] := ⟨by simp, Or.inr ⟨w.heap.size, 0, #[], rfl, Nat.le_refl _, heap_alloc_new _ _, Nat.le_refl _, Nat.zero_le _, rfl, rfl⟩⟩
  have HB : RowAt (w.alloc (.cells #[] 9)) (fun _ => True) 9 1 (.slice aa l.length ca) l.length (namesV l) := hl.move (fun g _ lt => ⟨trivial, ba.block g lt⟩)
  have b1 : ∀ {ao cap w1}, Onto (w.alloc (.cells #[] 9)) w.heap.size 9 1 (.slice (some ⟨w.heap.size, 0, none⟩) 0 0) l.length (namesV l) ao cap w1 → Below w.heap.size w w1 := fun h =>
    ⟨h.2.1.os.trans ba.os, h.2.1.tape.trans ba.tape, h.2.1.output.trans ba.output, Nt ba.size h.2.1.size, fun k hk => (h.2.1.block k (by have := ba.size; omega) (fun e => by have e' : k = w.heap.size := Oi e; omega)).trans (ba.block k hk)⟩
  have HC : ∀ {w1 : World}, Below w.heap.size w w1 → RowAt w1 (fun _ => True) 9 1 (.slice ab r.length cb) r.length (namesV r) := fun h => hr.move (fun g _ lt => ⟨trivial, h.block g lt⟩)
  have HD := Hd (Ai HA HB)
  have HE := Hd ba.size
  clear hl hr HA HB
  go_enter Try.func39, Try.ntmps39
  go_wp2_with (at_builtin; first
    | (refine list_onto_str rfl _ _ rfl _ w.heap.size 0 (.slice (some ⟨w.heap.size, 0, none⟩) 0 0) [] rfl HD.out.1 (fun _ => True) l.length (namesV l) (.slice aa l.length ca) rfl HD.out.2 namesV_one (by omega) HE.out ?_; intro ao cap w1 O1; rw [Nat.zero_add, List.nil_append] at O1)
    | (refine list_onto_str rfl _ _ rfl _ w.heap.size l.length (.slice ao l.length cap) (namesV l) rfl O1.1 (fun _ => True) r.length (namesV r) (.slice ab r.length cb) rfl (HC (b1 O1)) namesV_one (by omega) (b1 O1).size ?_; intro ao2 cap2 w2 O2))
  refine bodyPost_ret (v := .slice ao2 (l.length + r.length) cap2) (by simp [results, Try.results39, go_sem]) rfl ⟨⟨_, rfl, ?_⟩, ?_⟩
  · have h := O2.1
    rwa [show namesV l ++ namesV r = namesV (l ++ r) by simp only [namesV, List.map_append]] at h
  · have h1 := b1 O1
    have hz := HE.out
    refine ⟨O2.2.1.os.trans h1.os, O2.2.1.tape.trans h1.tape, O2.2.1.output.trans h1.output, Nt h1.size O2.2.1.size, fun k hk => (O2.2.1.block k (by have := h1.size; omega) (fun e => ?_)).trans (h1.block k hk)⟩
    rcases O1.2.2 with q | q
    · rw [q] at e
      have e' : k = w.heap.size := Oi e
      omega
    · rw [q] at e
      have e' : k = (w.alloc (.cells #[] 9)).heap.size := Oi e
      omega
end Go.Proofs.Ytdjcdecbmeickaa
namespace Go.Proofs.Ytdjcdecbmeickaa
set_option maxHeartbeats 64000000
set_option maxRecDepth 100000
open Go.RowKit Go.Lib
theorem run_onto_declR (ty : TypeId) (w : World) (base n : Nat) (v : Value) (xs : List Value) (hown : w.ownsRow base 66 2 v n xs) (K : Nat → Prop) (m : Nat) (ys : List Value) (x : Value) (hx : RowAt w K 66 2 x m ys) (h1 : ∀ u ∈ ys, u.oneCell' = true) (hb : n + m ≤ 100000) (hbase : base ≤ w.heap.size) :
    ∃ ao cap w', (Builtin.append_ #[39, 39] ty #[v, x]).run Try.prog w = .ok (.slice ao (n + m) cap) w' ∧ Onto w base 66 2 v (n + m) (xs ++ ys) ao cap w' := by
  obtain ⟨i0, hi, hz0, hz1, hz2⟩ := info_parts Try.info_decl
  obtain ⟨hl, ⟨rfl, rfl⟩ | ⟨g, o, c, cur, rfl, h2, h3, h4, h5, h6⟩⟩ := id hx
  · have hy : ys = [] := List.length_eq_zero_iff.1 (by simpa using hl)
    subst hy
    obtain ⟨ao, cap, rfl, hlow⟩ := own_shape hown
    exact ⟨ao, cap, w, run_nil_decl ty _ base n xs 0 w hown, by simpa using hown, ⟨rfl, rfl, rfl, Nat.le_refl _, fun _ _ _ => rfl⟩, Or.inl rfl⟩
  · obtain ⟨v', w', hr, q2, q3, _, q5⟩ := run_append_own_at (P := Try.prog) w base 39 ty 66 i0 (.agg #[.string ⟨#[]⟩, .int .i64 0]) 2 24 Try.underlying39 hi hz0 hz1 hz2 rfl (by decide) v n xs hown ⟨g, o, none⟩ m c ys hl (fun j u hj => by rw [add_at]; exact h6 j u hj) h1 (by unfold maxLen; omega) (by omega) hbase
    obtain ⟨ao, c2, rfl, hlow⟩ := own_shape q2
    exact ⟨ao, c2, w', hr, q2, q3, q5⟩
theorem wp_onto_declR {o : Oper} {a : Act} {K : Act → World → Prop} {Q : Exit → Act → World → Prop} (s x : Operand) (ho : o.op = .call { callee := .builtin .append, args := #[s, x], argTypes := #[39, 39] })
    (w : World) (base n : Nat) (v : Value) (xs : List Value) (hs : a.eval s = v) (hown : w.ownsRow base 66 2 v n xs) (K2 : Nat → Prop) (m : Nat) (ys : List Value) (xv : Value) (hx : a.eval x = xv) (hsrc : RowAt w K2 66 2 xv m ys) (h1 : ∀ u ∈ ys, u.oneCell' = true) (hb : n + m ≤ 100000) (hbase : base ≤ w.heap.size)
    (h : ∀ ao cap w', Onto w base 66 2 v (n + m) (xs ++ ys) ao cap w' → K (a.put o.dst (.slice ao (n + m) cap)) w') : o.wp Try.prog a w K Q := by
  obtain ⟨ao, cap, w', hr, h2⟩ := run_onto_declR o.type w base n v xs hown K2 m ys xv hsrc h1 hb hbase
  unfold Oper.wp execOp
  simp only [ho, resolve, invoke, builtin, Sem.run_bind, Sem.run_pure, Result.andThen_ok, List.map_toArray, List.map_cons, List.map_nil, hs, hx, hr]
  exact h ao cap w' h2
theorem list_onto_declR {ops : Array Oper} {rest : List Oper} {o : Oper} {a : Act} {Q : Exit → Act → World → Prop} (hgd : o.guard = none) (s x : Operand) (ho : o.op = .call { callee := .builtin .append, args := #[s, x], argTypes := #[39, 39] })
    (w : World) (base n : Nat) (v : Value) (xs : List Value) (hs : a.eval s = v) (hown : w.ownsRow base 66 2 v n xs) (K2 : Nat → Prop) (m : Nat) (ys : List Value) (xv : Value) (hx : a.eval x = xv) (hsrc : RowAt w K2 66 2 xv m ys) (h1 : ∀ u ∈ ys, u.oneCell' = true) (hb : n + m ≤ 100000) (hbase : base ≤ w.heap.size)
    (h : ∀ ao cap w', Onto w base 66 2 v (n + m) (xs ++ ys) ao cap w' → wpList Try.prog ops Q rest (a.put o.dst (.slice ao (n + m) cap)) w') : wpList Try.prog ops Q (o :: rest) a w :=
  wpList_plain hgd fun _ hK => wp_onto_declR s x ho w base n v xs hs hown K2 m ys xv hx hsrc h1 hb hbase fun ao cap w' h1 => hK _ _ (h ao cap w' h1)
theorem scons_any (ds : List (Nm × Int)) (a b : Value) (K : Nat → Prop) (w : World) (hn : 4 + ds.length ≤ 100000) (hl : RowAt w K 66 2 a ds.length (declV ds)) :
    Calls Try.prog 24 #[.agg #[a, b]] w fun e w' => (∃ v, e = .returned v ∧ w'.ownsRow w.heap.size 66 2 v (4 + ds.length) (declV (four ++ ds))) ∧ Below w.heap.size w w' := by
  obtain ⟨aa, ca, rfl⟩ := hl.sl
  have ba := (Below.refl w.heap.size w).alloc Nr (.cells #[.slice aa ds.length ca, b] 41)
  have bb := ba.alloc ba.size (.cells (declV four).toArray 66)
  have hz : (w.alloc (.cells #[.slice aa ds.length ca, b] 41)).heap.size = w.heap.size + 1 := Array.size_push ..
  have HA : ((w.alloc (.cells #[.slice aa ds.length ca, b] 41)).alloc (.cells (declV four).toArray 66)).ownsRow w.heap.size 66 2 (.slice (some ⟨w.heap.size + 1, 0, none⟩) 4 4) 4 (declV four) := ⟨rfl, Or.inr ⟨w.heap.size + 1, 4, (declV four).toArray, rfl, by omega, by rw [← hz]; exact heap_alloc_new _ _, Nat.le_refl _, by decide, rfl, rfl⟩⟩
  have HB : RowAt ((w.alloc (.cells #[.slice aa ds.length ca, b] 41)).alloc (.cells (declV four).toArray 66)) (fun _ => True) 66 2 (.slice aa ds.length ca) ds.length (declV ds) := hl.move (fun g _ lt => ⟨trivial, bb.block g lt⟩)
  have HD := Hd (Ai HA (Ai HB bb))
  clear hl HA HB ba bb hz
  go_enter Try.func24, Try.ntmps24
  go_wp2_with (at_builtin; refine list_onto_declR rfl _ _ rfl _ w.heap.size 4 (.slice (some ⟨w.heap.size + 1, 0, none⟩) 4 4) (declV four) rfl HD.out.1 (fun _ => True) ds.length (declV ds) (.slice aa ds.length ca) rfl HD.out.2.1 (declV_one ds) hn HD.out.2.2.size ?_; intro ao cap w1 O1)
  refine bodyPost_ret (v := .slice ao (4 + ds.length) cap) (by simp [results, Try.results24, go_sem]) rfl ⟨⟨_, rfl, ?_⟩, ?_⟩
  · have h := O1.1
    rwa [← declV_app] at h
  · have bb := HD.out.2.2
    exact ⟨O1.2.1.os.trans bb.os, O1.2.1.tape.trans bb.tape, O1.2.1.output.trans bb.output, Nt bb.size O1.2.1.size, fun k hk => (O1.2.1.block k (Nat.lt_of_lt_of_le hk bb.size) (fun e => by have e' : k = w.heap.size + 1 := Oi e; omega)).trans (bb.block k hk)⟩
end Go.Proofs.Ytdjcdecbmeickaa
namespace Go.Proofs.Ytdjcdecbmeickaa
set_option maxHeartbeats 64000000
set_option maxRecDepth 100000
open Go.RowKit Go.Lib
theorem or_none {a b : Fo} : a.or b = none ↔ a = none ∧ b = none := by
  cases a <;> simp [Option.or]
theorem hasF_none {a : List Nm} {n : Nm} : hasF a n = none ↔ n ∈ a := by
  unfold hasF
  by_cases g : n ∈ a
  · rw [if_pos g]; exact ⟨fun _ => g, fun _ => rfl⟩
  · rw [if_neg g]; exact ⟨fun h => (by cases h), fun h => absurd h g⟩
theorem twiceL_none : ∀ (l seen : List Nm), twiceL seen l = none ↔ l.Nodup ∧ ∀ x, x ∈ l → x ∉ seen
  | [], seen => by simp [twiceL]
  | x :: r, seen => by
    unfold twiceL
    by_cases g : x ∈ seen
    · rw [if_pos g]
      exact ⟨fun h => (by cases h), fun h => absurd g (h.2 x (List.mem_cons_self ..))⟩
    · rw [if_neg g, twiceL_none r (seen ++ [x])]
      constructor
      · rintro ⟨h1, h2⟩
        refine ⟨List.nodup_cons.2 ⟨fun hx => h2 x hx (List.mem_append.2 (Or.inr (List.mem_singleton.2 rfl))), h1⟩, fun y hy => ?_⟩
        rcases List.mem_cons.1 hy with rfl | hy
        · exact g
        · exact fun hs => h2 y hy (List.mem_append.2 (Or.inl hs))
      · rintro ⟨h1, h2⟩
        obtain ⟨h3, h4⟩ := List.nodup_cons.1 h1
        refine ⟨h4, fun y hy hs => ?_⟩
        rcases List.mem_append.1 hs with hs | hs
        · exact h2 y (List.mem_cons_of_mem _ hy) hs
        · rw [List.mem_singleton.1 hs] at hy; exact h3 hy
theorem twF_none (l : List Nm) : twF l = none ↔ l.Nodup := by
  unfold twF
  rw [Option.map_eq_none_iff, twiceL_none]
  exact ⟨fun h => h.1, fun h => ⟨h, fun _ _ hs => (by cases hs)⟩⟩
theorem scBs_none {cs sc : List Nm} : ∀ (l : List (Nm × List Nm × Ex)), scBs cs sc l = none ↔ ∀ b, b ∈ l → b.2.1.Nodup ∧ scE cs (sc ++ b.2.1) b.2.2 = none
  | [] => by unfold scBs; simp
  | (n, ps, e) :: r => by
    unfold scBs
    rw [or_none, or_none, twF_none, scBs_none r]
    constructor
    · rintro ⟨h1, h2⟩ b hb
      rcases List.mem_cons.1 hb with rfl | hb
      · exact h1
      · exact h2 b hb
    · intro h
      exact ⟨h _ (List.mem_cons_self ..), fun b hb => h b (List.mem_cons_of_mem _ hb)⟩
theorem scM_none (m : Md) : scM m = none ↔ (conNames m).Nodup ∧ (bNames m.2).Nodup ∧ mainL ∈ bNames m.2 ∧ ∀ b, b ∈ m.2 → b.2.1.Nodup ∧ scE (conNames m) (bNames m.2 ++ b.2.1) b.2.2 = none := by
  unfold scM
  rw [or_none, or_none, or_none, twF_none, twF_none, scBs_none]
  by_cases g : mainL ∈ bNames m.2
  · rw [if_pos g]; simp [g]
  · rw [if_neg g]; simp [g]
end Go.Proofs.Ytdjcdecbmeickaa
namespace Go.Proofs.Ytdjcdecbmeickaa
set_option maxHeartbeats 64000000
set_option maxRecDepth 100000
open Go.RowKit Go.Lib
theorem sumN_len {α : Type} (f : α → Nat) (h : ∀ a, 1 ≤ f a) : ∀ (l : List α), l.length ≤ sumN f l
  | [] => Nat.zero_le _
  | x :: r => by
    have := sumN_len f h r
    have := h x
    simp only [sumN, List.length_cons]; omega
end Go.Proofs.Ytdjcdecbmeickaa
namespace Go.Proofs.Ytdjcdecbmeickaa
set_option maxHeartbeats 64000000
set_option maxRecDepth 100000
open Go.RowKit Go.Lib
theorem below_of_new {w w1 w2 : World} {m : Nat} (hb : Below w.heap.size w w1) (hg : w1.grownBy w2 (some m)) (hm : w.heap.size ≤ m) : Below w.heap.size w w2 :=
  ⟨hg.os.trans hb.os, hg.tape.trans hb.tape, hg.output.trans hb.output, Nt hb.size hg.size, fun k hk => (hg.block k (Nat.lt_of_lt_of_le hk hb.size) (fun e => by have e' : k = m := Oi e; omega)).trans (hb.block k hk)⟩
end Go.Proofs.Ytdjcdecbmeickaa
namespace Go.Proofs.Ytdjcdecbmeickaa
set_option maxHeartbeats 64000000
set_option maxRecDepth 100000
open Go.RowKit Go.Lib
theorem declV_here : ∀ {l : List (Nm × Int)} {j : Nat} (hj : j < l.length), (declV l)[j * 2]? = some (.string (tx l[j].1)) ∧ (declV l)[j * 2 + 1]? = some (.int .i64 l[j].2)
  | (n, x) :: _, 0, _ => ⟨rfl, rfl⟩
  | (n, x) :: ds, j + 1, hj => by
    have h := declV_here (l := ds) (j := j) (by simpa using hj)
    rw [show (j + 1) * 2 = j * 2 + 1 + 1 by omega]
    exact h
end Go.Proofs.Ytdjcdecbmeickaa
namespace Go.Proofs.Ytdjcdecbmeickaa
set_option maxHeartbeats 64000000
set_option maxRecDepth 100000
open Go.RowKit Go.Lib
theorem firstF_snoc {α : Type} (F : α → Fo) : ∀ (l : List α) (x : α), firstF F (l ++ [x]) = (firstF F l).or (F x)
  | [], x => by show (F x).or none = _; cases F x <;> rfl
  | y :: r, x => by
    show (F y).or (firstF F (r ++ [x])) = ((F y).or (firstF F r)).or (F x)
    rw [firstF_snoc F r x, or_assoc_f]
end Go.Proofs.Ytdjcdecbmeickaa
namespace Go.Proofs.Ytdjcdecbmeickaa
set_option maxHeartbeats 64000000
set_option maxRecDepth 100000
open Go.RowKit Go.Lib
theorem outE_not : ∀ (e : Ex) (bd : List Nm), ∀ x, x ∈ outE bd e → x ∉ bd
  | e, bd, x, hx, hb => by
    have h : outE (bd ++ bd) e = outE bd e := outE_eq (fun y => by simp) e
    rw [← h, ← outE_wo] at hx
    exact (wo_mem.1 hx).2 hb
theorem outEs_not : ∀ (l : List Ex) (bd : List Nm), ∀ x, x ∈ outEs bd l → x ∉ bd
  | l, bd, x, hx, hb => by
    have h : outEs (bd ++ bd) l = outEs bd l := outEs_eq (fun y => by simp) l
    rw [← h, ← outEs_wo] at hx
    exact (wo_mem.1 hx).2 hb
theorem outBs_not : ∀ (l : List (Nm × List Nm × Ex)) (bd : List Nm), ∀ x, x ∈ outBs bd l → x ∉ bd
  | l, bd, x, hx, hb => by
    have h : outBs (bd ++ bd) l = outBs bd l := outBs_eq (fun y => by simp) l
    rw [← h, ← outBs_wo] at hx
    exact (wo_mem.1 hx).2 hb
mutual
theorem out_scope {cs : List Nm} : ∀ (e : Ex) (sc bd : List Nm), scE cs sc e = none → ∀ x, x ∈ outE bd e → x ∈ sc
  | .mk k n f y ps ks bs al, sc, bd, h, x, hx => by
    have hm := hx
    unfold scE at h
    unfold outE at hx
    split at h
    · rename_i g
      rw [if_pos g] at hx
      split at hx
      · cases hx
      · rw [List.mem_singleton.1 hx]; exact hasF_none.1 h
    rename_i g1
    rw [if_neg g1] at hx
    split at h
    · rename_i g
      rw [if_neg (by omega), if_neg (by omega), if_neg (by omega)] at hx
      exact outEs_scope ks sc bd (or_none.1 h).2 x hx
    split at h
    · rename_i g
      rw [if_pos g] at hx
      obtain ⟨-, h⟩ := or_none.1 h
      obtain ⟨p, q⟩ := or_none.1 h
      rcases List.mem_append.1 hx with hx | hx
      · rcases List.mem_append.1 (outBs_scope bs _ _ p x hx) with h | h
        · exact h
        · exact absurd (List.mem_append.2 (Or.inr h)) (outBs_not bs _ x hx)
      · rcases List.mem_append.1 (outEs_scope ks _ _ q x hx) with h | h
        · exact h
        · exact absurd (List.mem_append.2 (Or.inr h)) (outEs_not ks _ x hx)
    rename_i g6
    rw [if_neg g6] at hx
    split at h
    · rename_i g
      rw [if_pos g] at hx
      obtain ⟨p, q⟩ := or_none.1 h
      rcases List.mem_append.1 hx with hx | hx
      · exact outEs_scope ks _ _ p x hx
      · exact outAs_scope al _ _ q x hx
    rename_i g7
    rw [if_neg g7] at hx
    split at h
    · rename_i g
      rw [if_pos g] at hx
      obtain ⟨-, q⟩ := or_none.1 h
      rcases List.mem_append.1 (outEs_scope ks _ _ q x hx) with h | h
      · exact h
      · exact absurd (List.mem_append.2 (Or.inr h)) (outEs_not ks _ x hx)
    rename_i g8
    rw [if_neg g8] at hx
    exact outEs_scope ks _ _ h x hx
theorem outEs_scope {cs : List Nm} : ∀ (l : List Ex) (sc bd : List Nm), scEs cs sc l = none → ∀ x, x ∈ outEs bd l → x ∈ sc
  | [], _, _, _, x, hx => by unfold outEs at hx; cases hx
  | e :: r, sc, bd, h, x, hx => by
    unfold scEs at h
    unfold outEs at hx
    obtain ⟨p, q⟩ := or_none.1 h
    rcases List.mem_append.1 hx with hx | hx
    · exact out_scope e sc bd p x hx
    · exact outEs_scope r sc bd q x hx
theorem outBs_scope {cs : List Nm} : ∀ (l : List (Nm × List Nm × Ex)) (sc bd : List Nm), scBs cs sc l = none → ∀ x, x ∈ outBs bd l → x ∈ sc
  | [], _, _, _, x, hx => by unfold outBs at hx; cases hx
  | (n, ps, e) :: r, sc, bd, h, x, hx => by
    unfold scBs at h
    unfold outBs at hx
    obtain ⟨p, q⟩ := or_none.1 h
    obtain ⟨-, p⟩ := or_none.1 p
    rcases List.mem_append.1 hx with hx | hx
    · rcases List.mem_append.1 (out_scope e _ _ p x hx) with h | h
      · exact h
      · exact absurd (List.mem_append.2 (Or.inr h)) (outE_not e _ x hx)
    · exact outBs_scope r sc bd q x hx
theorem outAs_scope {cs : List Nm} : ∀ (l : List (Int × Nm × Bool × Int × List Nm × Ex)) (sc bd : List Nm), scAs cs sc l = none → ∀ x, x ∈ outAs bd l → x ∈ sc
  | [], _, _, _, x, hx => by unfold outAs at hx; cases hx
  | (k, n, f, y, ns, e) :: r, sc, bd, h, x, hx => by
    unfold scAs at h
    unfold outAs at hx
    obtain ⟨p, q⟩ := or_none.1 h
    rcases List.mem_append.1 hx with hx | hx
    · split at p
      · rename_i g
        rw [if_pos g] at hx
        obtain ⟨-, p⟩ := or_none.1 p
        obtain ⟨-, p⟩ := or_none.1 p
        rcases List.mem_append.1 (out_scope e _ _ p x hx) with h | h
        · exact h
        · exact absurd (List.mem_append.2 (Or.inr h)) (outE_not e _ x hx)
      rename_i g0
      rw [if_neg g0] at hx
      split at p
      · rename_i g
        rw [if_pos g] at hx
        rcases List.mem_append.1 (out_scope e _ _ p x hx) with h | h
        · exact h
        · exact absurd (List.mem_append.2 (Or.inr h)) (outE_not e _ x hx)
      · rename_i g
        rw [if_neg g] at hx
        exact out_scope e _ _ p x hx
    · exact outAs_scope r sc bd q x hx
end
theorem free_scope {cs G ps : List Nm} {e : Ex} (h : scE cs (G ++ ps) e = none) : ∀ x, x ∈ bodyL ps e → x ∈ G := by
  intro x hx
  have hx' : x ∈ outE ps e := by
    unfold bodyL at hx
    rcases (dedup_mem _ _ _).1 hx with h | h
    · cases h
    · exact h
  rcases List.mem_append.1 (out_scope e _ _ h x hx') with h | h
  · exact h
  · exact absurd h (outE_not e _ x hx')
theorem vars_known {m : Md} (h : scM m = none) {b : Bnd} (hb : b ∈ m.2) : ∀ x, x ∈ bodyL b.2.1 b.2.2 → x ∈ bNames m.2 :=
  free_scope (((scM_none m).1 h).2.2.2 b hb).2
theorem vars_wanted {m : Md} {b : Bnd} {x : Nm} (hx : x ∈ bodyL b.2.1 b.2.2) {bs' : List Bnd} (hb : b ∈ bs') (hn : x ∉ bNames bs') : scM (m.1, bs') ≠ none := by
  intro h
  exact hn (free_scope (((scM_none (m.1, bs')).1 h).2.2.2 b hb).2 x hx)
end Go.Proofs.Ytdjcdecbmeickaa
namespace Go.Proofs.Ytdjcdecbmeickaa
set_option maxHeartbeats 64000000
set_option maxRecDepth 100000
open Go.RowKit Go.Lib
abbrev Apart (b : Nat) : Nat → Prop := fun g => g ≠ b
def DocC (n : Nat) : Prop :=
  ∀ (x : Ex) (b : Nat) (st : Fo) (cl : List Nm) (ac : Option Addr) (cc : Nat) (sc : List Nm) (ai : Option Addr) (ci : Nat) (W : World) (k : Int) (nm : Nm) (f : Bool) (u : Int) (ap : Option Addr) (np cp : Nat) (ak : Option Addr) (nk ck : Nat) (ab : Option Addr) (nb cb : Nat) (aa : Option Addr) (na ca : Nat), SizeOf.sizeOf x ≤ n → wfE x → sc.length + wtE x ≤ 100000 → SAt W b st (.slice ac cl.length cc) → RowAt W (Apart b) 9 1 (.slice ac cl.length cc) cl.length (namesV cl) → RowAt W (Apart b) 9 1 (.slice ai sc.length ci) sc.length (namesV sc) → ExAt W (Apart b) x [.int .i64 k, .string (tx nm), .bool f, .int .u64 u, .slice ap np cp, .slice ak nk ck, .slice ab nb cb, .slice aa na ca] →
    Calls Try.prog 38 #[.pointer (some ⟨b, 0, none⟩), .agg #[.int .i64 k, .string (tx nm), .bool f, .int .u64 u, .slice ap np cp, .slice ak nk ck, .slice ab nb cb, .slice aa na ca], .slice ai sc.length ci] W fun e w' => e = .returned (.tuple #[]) ∧ SAt w' b (st.or (sdE cl sc x)) (.slice ac cl.length cc) ∧ W.grownBy w' (some b)
theorem RowAt.apart {w w' : World} {b : Nat} {e : TypeId} {size n : Nat} {v : Value} {xs : List Value} (h : RowAt w (Apart b) e size v n xs) (hg : w.grownBy w' (some b)) : RowAt w' (Apart b) e size v n xs := h.past hg (fun _ hg => hg)
theorem RowAt.apartB {w w' : World} {b : Nat} {e : TypeId} {size n : Nat} {v : Value} {xs : List Value} (h : RowAt w (Apart b) e size v n xs) (hb : Below w.heap.size w w') : RowAt w' (Apart b) e size v n xs := h.move fun g hk lt => ⟨hk, hb.block g lt⟩
theorem ExAt.apart {w w' : World} {b : Nat} {x : Ex} {xs : List Value} (h : ExAt w (Apart b) x xs) (hg : w.grownBy w' (some b)) : ExAt w' (Apart b) x xs := h.move fun g hk lt => ⟨hk, hg.block g lt (by simpa using hk)⟩
theorem ExAt.apartB {w w' : World} {b : Nat} {x : Ex} {xs : List Value} (h : ExAt w (Apart b) x xs) (hb : Below w.heap.size w w') : ExAt w' (Apart b) x xs := h.move fun g hk lt => ⟨hk, hb.block g lt⟩
theorem SAt.lt {w : World} {b : Nat} {st : Fo} {vc : Value} (h : SAt w b st vc) : b < w.heap.size := h.box.lt
def sdB (cs sc : List Nm) (b : Bnd) : Fo := (twF b.2.1).or (sdE cs (sc ++ b.2.1) b.2.2)
def sdA (cs sc : List Nm) (a : Alt) : Fo := if a.1 = 0 then (hasF cs a.2.1).or ((twF a.2.2.2.2.1).or (sdE cs (sc ++ a.2.2.2.2.1) a.2.2.2.2.2)) else if a.1 = 2 then sdE cs (sc ++ [a.2.1]) a.2.2.2.2.2 else sdE cs sc a.2.2.2.2.2
theorem sdEs_first (cs sc : List Nm) : ∀ (l : List Ex), sdEs cs sc l = firstF (sdE cs sc) l
  | [] => by unfold sdEs firstF; rfl
  | e :: r => by unfold sdEs firstF; rw [sdEs_first cs sc r]
theorem sdBs_first (cs sc : List Nm) : ∀ (l : List Bnd), sdBs cs sc l = firstF (sdB cs sc) l
  | [] => by unfold sdBs firstF; rfl
  | (n, ps, e) :: r => by unfold sdBs firstF; rw [sdBs_first cs sc r]; rfl
theorem sdAs_first (cs sc : List Nm) : ∀ (l : List Alt), sdAs cs sc l = firstF (sdA cs sc) l
  | [] => by unfold sdAs firstF; rfl
  | (k, n, f, x, ns, e) :: r => by unfold sdAs firstF; rw [sdAs_first cs sc r]; rfl
theorem join_here (b : Nat) (sc ps : List Nm) (ai : Option Addr) (ci : Nat) (aq : Option Addr) (cq : Nat) (hn : sc.length + ps.length ≤ 100000) (W V : World) (hb : Below W.heap.size W V) (hi : RowAt W (Apart b) 9 1 (.slice ai sc.length ci) sc.length (namesV sc)) (K : Nat → Prop) (hq : RowAt V K 9 1 (.slice aq ps.length cq) ps.length (namesV ps)) :
    Calls Try.prog 39 #[.slice ai sc.length ci, .slice aq ps.length cq] V fun e w' => (∃ a c, e = .returned (.slice a (sc ++ ps).length c) ∧ (b < V.heap.size → RowAt w' (Apart b) 9 1 (.slice a (sc ++ ps).length c) (sc ++ ps).length (namesV (sc ++ ps)))) ∧ Below V.heap.size V w' := by
  refine (sjoin_any sc ps _ _ (Apart b) K V hn (hi.apartB hb) hq).mono fun e w' hh => ⟨?_, hh.2⟩
  obtain ⟨⟨v, h1, ho⟩, -⟩ := hh
  rw [← List.length_append] at ho
  obtain ⟨a, c, rfl, -⟩ := own_shape ho
  exact ⟨a, c, h1, fun hbv => RowAt.of ho (fun g hg => by show g ≠ b; omega)⟩
theorem sbinds_any (n : Nat) (hP : DocC n) (b : Nat) (st : Fo) (cl : List Nm) (ac : Option Addr) (cc : Nat) (sc : List Nm) (ai : Option Addr) (ci : Nat) (l : List Bnd) (hz : ∀ y, y ∈ l → SizeOf.sizeOf y.2.2 ≤ n) (hw : ∀ y, y ∈ l → wB y) (hn : sc.length + sumN nB l ≤ 100000) (a : Option Addr) (c : Nat) (xs : List Value) (w : World) (hS : SAt w b st (.slice ac cl.length cc)) (hc : RowAt w (Apart b) 9 1 (.slice ac cl.length cc) cl.length (namesV cl)) (hi : RowAt w (Apart b) 9 1 (.slice ai sc.length ci) sc.length (namesV sc)) (hr : RowAt w (Apart b) 36 10 (.slice a l.length c) l.length xs) (ht : BndsAt w (Apart b) l xs) :
    Calls Try.prog 28 #[.pointer (some ⟨b, 0, none⟩), .slice a l.length c, .slice ai sc.length ci] w fun e w' => e = .returned (.tuple #[]) ∧ SAt w' b (st.or (sdBs cl sc l)) (.slice ac cl.length cc) ∧ w.grownBy w' (some b) := by
  have HO := Hd (Ai hr (Ai ht (Ai hc hi)))
  have HS := Hd hS
  have HQ := Hd (Ai hz hw)
  have hmx := hr.cap
  unfold maxLen at hmx
  clear hr ht hc hi hS hz hw
  rw [sdBs_first]
  go_enter Try.func28, Try.ntmps28
  go_wp2_with fail
  go_loopw [6] (fun s wr => ∃ j : Nat, j ≤ l.length ∧ s = .int .i64 j ∧ SAt wr b (st.or (firstF (sdB cl sc) (l.take j))) (.slice ac cl.length cc) ∧ w.grownBy wr (some b)) (fun s _ => l.length - (RowKit.intOf s).toNat)
  case atStart => exact ⟨0, Nat.zero_le _, rfl, by rw [List.take_zero, show firstF (sdB cl sc) [] = none from rfl, or_nil_l]; exact HS.out, grown_of Br⟩
  case round =>
    obtain ⟨j, hj, rfl, hs1, hg1⟩ := hrel
    have HR := Hd (Ai hs1 hg1)
    clear hs1 hg1
    by_cases gj : j < l.length
    · have gj' : (j : Int) < (l.length : Int) := by omega
      obtain ⟨aq, cq, k, nm, f, u, ap, np, cp, ak, nk, ck, ab, nb, cb, aa, na, ca, hQ, hE, hcs⟩ := HO.out.2.1.cells j gj
      obtain ⟨g1, o1, ea1, k1, m1', hgb, ht1⟩ := (HO.out.1.apart HR.out.2).at (by omega)
      subst ea1
      have HP := Hd (fun i v h => ht1 _ _ (hcs i v h))
      have HT := Hd (show l.take (j + 1) = l.take j ++ [l[j]] from List.take_succ_eq_append_getElem gj)
      have HF := Hd (show firstF (sdB cl sc) (l.take (j + 1)) = (firstF (sdB cl sc) (l.take j)).or ((twF l[j].2.1).or (sdE cl (sc ++ l[j].2.1) l[j].2.2)) by rw [HT.out, firstF_snoc]; rfl)
      have HZ := Hd (Ai (HQ.out.1 _ (List.getElem_mem gj)) (Ai (HQ.out.2 _ (List.getElem_mem gj)) (sumN_mem nB (List.getElem_mem gj))))
      have HE := Hd (Ai (hQ.apart HR.out.2) (hE.apart HR.out.2))
      clear ht1 hcs hQ hE HT
      generalize l[j].1 = nb0 at *
      obtain ⟨body, hbody⟩ : ∃ body, body = l[j].2.2 := ⟨_, rfl⟩
      obtain ⟨ps, hps⟩ : ∃ ps, ps = l[j].2.1 := ⟨_, rfl⟩
      have hwt : sc.length + (1 + ps.length + wtE body) ≤ 100000 := by rw [hps, hbody]; have h : 1 + l[j].2.1.length + wtE l[j].2.2 ≤ sumN nB l := HZ.out.2.2; omega
      have HZ2 := Hd (show SizeOf.sizeOf body ≤ n ∧ wfE body from ⟨by rw [hbody]; exact HZ.out.1, by rw [hbody]; exact HZ.out.2.1.2.2⟩)
      rw [← hps, ← hbody] at HF HE
      rw [← hps] at HP
      clear HZ hps hbody
      have p10 : wr.cell? ⟨g1, o1 + j * 10 + 1, none⟩ = some (.slice aq ps.length cq) := by rw [Nat.add_assoc]; exact HP.out 1 _ rfl
      have p20 : wr.cell? ⟨g1, o1 + j * 10 + 2, none⟩ = some (.int .i64 k) := by rw [Nat.add_assoc]; exact HP.out 2 _ rfl
      have p30 : wr.cell? ⟨g1, o1 + j * 10 + 3, none⟩ = some (.string (tx nm)) := by rw [Nat.add_assoc]; exact HP.out 3 _ rfl
      have p40 : wr.cell? ⟨g1, o1 + j * 10 + 4, none⟩ = some (.bool f) := by rw [Nat.add_assoc]; exact HP.out 4 _ rfl
      have p50 : wr.cell? ⟨g1, o1 + j * 10 + 5, none⟩ = some (.int .u64 u) := by rw [Nat.add_assoc]; exact HP.out 5 _ rfl
      have p60 : wr.cell? ⟨g1, o1 + j * 10 + 6, none⟩ = some (.slice ap np cp) := by rw [Nat.add_assoc]; exact HP.out 6 _ rfl
      have p70 : wr.cell? ⟨g1, o1 + j * 10 + 7, none⟩ = some (.slice ak nk ck) := by rw [Nat.add_assoc]; exact HP.out 7 _ rfl
      have p80 : wr.cell? ⟨g1, o1 + j * 10 + 8, none⟩ = some (.slice ab nb cb) := by rw [Nat.add_assoc]; exact HP.out 8 _ rfl
      have p90 : wr.cell? ⟨g1, o1 + j * 10 + 9, none⟩ = some (.slice aa na ca) := by rw [Nat.add_assoc]; exact HP.out 9 _ rfl
      have ej : IntKind.i64.wrap ((j : Int) + 1) = (j : Int) + 1 := by rw [IntKind.wrap_i64]; omega
      have b0 : (0 : Int) ≤ (j : Int) := by omega
      have HTw := Hd (stwice_any b (st.or (firstF (sdB cl sc) (l.take j))) (.slice ac cl.length cc) ps aq cq (Apart b) (fun _ h => h) wr HR.out.1 HE.out.1)
      go_wp2_with fail
      refine HTw.out.mono ?_
      rintro e w4 ⟨rfl, hs4, hg4⟩
      have H4 := Hd (Ai hs4 (Gt HR.out.2 hg4))
      have HL := Hd hs4.lt
      have HE4 := Hd (Ai (HE.out.1.apart hg4) (HE.out.2.apart hg4))
      have p1 := hg4.cell p10 (by simpa using hgb)
      have p2 := hg4.cell p20 (by simpa using hgb)
      have p3 := hg4.cell p30 (by simpa using hgb)
      have p4 := hg4.cell p40 (by simpa using hgb)
      have p5 := hg4.cell p50 (by simpa using hgb)
      have p6 := hg4.cell p60 (by simpa using hgb)
      have p7 := hg4.cell p70 (by simpa using hgb)
      have p8 := hg4.cell p80 (by simpa using hgb)
      have p9 := hg4.cell p90 (by simpa using hgb)
      have hwt2 : sc.length + ps.length ≤ 100000 := by omega
      obtain ⟨sc2, hsc2⟩ : ∃ sc2, sc2 = sc ++ ps := ⟨_, rfl⟩
      have hwt3 : sc2.length + wtE body ≤ 100000 := by rw [hsc2, List.length_append]; omega
      have HJ := Hd (fun (V : World) (hb : Below w4.heap.size w4 V) => join_here b sc ps ai ci aq cq hwt2 w4 V hb (HO.out.2.2.2.apart H4.out.2) (Apart b) (HE4.out.1.apartB hb))
      rw [← hsc2] at HJ HF
      have HXp := Hd (fun (V : World) (a2 : Option Addr) (c2 : Nat) (hb : Below w4.heap.size w4 V) (ho : RowAt V (Apart b) 9 1 (.slice a2 sc2.length c2) sc2.length (namesV sc2)) => hP body b ((st.or (firstF (sdB cl sc) (l.take j))).or (twF ps)) cl ac cc sc2 a2 c2 V k nm f u ap np cp ak nk ck ab nb cb aa na ca HZ2.out.1 HZ2.out.2 hwt3 (H4.out.1.later hb) ((HO.out.2.2.1.apart H4.out.2).apartB hb) ho (HE4.out.2.apartB hb))
      clear hs4 hg4 HTw hsc2 p10 p20 p30 p40 p50 p60 p70 p80 p90 HE HP
      go_wp2_with fail
      go_region_held3 (fun W' => W'.cell? ⟨g1, o1 + j * 10 + 1, none⟩ = some (.slice aq ps.length cq) ∧ W'.cell? ⟨g1, o1 + j * 10 + 2, none⟩ = some (.int .i64 k) ∧ W'.cell? ⟨g1, o1 + j * 10 + 3, none⟩ = some (.string (tx nm)) ∧ W'.cell? ⟨g1, o1 + j * 10 + 4, none⟩ = some (.bool f) ∧ W'.cell? ⟨g1, o1 + j * 10 + 5, none⟩ = some (.int .u64 u) ∧ W'.cell? ⟨g1, o1 + j * 10 + 6, none⟩ = some (.slice ap np cp) ∧ W'.cell? ⟨g1, o1 + j * 10 + 7, none⟩ = some (.slice ak nk ck) ∧ W'.cell? ⟨g1, o1 + j * 10 + 8, none⟩ = some (.slice ab nb cb) ∧ W'.cell? ⟨g1, o1 + j * 10 + 9, none⟩ = some (.slice aa na ca)) (first | exact ⟨r1, r2, r3, r4, r5, r6, r7, r8, r9⟩ | exact ⟨q1, q2, q3, q4, q5, q6, q7, q8, q9⟩ | exact ⟨p1, p2, p3, p4, p5, p6, p7, p8, p9⟩ | go_keep) (first
        | (go_at_call 39
           refine (HJ.out _ ?hb).mono ?_
           case hb => exact Br.drew
           rintro e w5 ⟨⟨a2, c2, rfl, ho⟩, hb5⟩
           have H5 : Below w4.heap.size w4 w5 := onB' (Below.refl w4.heap.size w4).drew hb5
           have ho5 := ho HL.out
           have q1 := later' H5 p1
           have q2 := later' H5 p2
           have q3 := later' H5 p3
           have q4 := later' H5 p4
           have q5 := later' H5 p5
           have q6 := later' H5 p6
           have q7 := later' H5 p7
           have q8 := later' H5 p8
           have q9 := later' H5 p9
           clear ho)
        | (go_at_call 38
           refine (HXp.out w5 a2 c2 H5 ho5).mono ?_
           rintro e w6 ⟨rfl, hs6, hg6⟩
           have r1 := hg6.cell q1 (by simpa using hgb)
           have r2 := hg6.cell q2 (by simpa using hgb)
           have r3 := hg6.cell q3 (by simpa using hgb)
           have r4 := hg6.cell q4 (by simpa using hgb)
           have r5 := hg6.cell q5 (by simpa using hgb)
           have r6 := hg6.cell q6 (by simpa using hgb)
           have r7 := hg6.cell q7 (by simpa using hgb)
           have r8 := hg6.cell q8 (by simpa using hgb)
           have r9 := hg6.cell q9 (by simpa using hgb)
           have H6 := Gt (grown_of (b := b) H5) hg6))
      all_goals go_wp2_with fail
      all_goals (refine ⟨⟨j + 1, by omega, by go_num, ?_, Gt H4.out.2 H6⟩, by simp [RowKit.intOf]; omega⟩; rw [HF.out]; have h := hs6; rwa [or_assoc_f, or_assoc_f] at h)
    · obtain rfl : j = l.length := by omega
      go_wp2_with fail
      go_end0
      have h := HR.out.1
      rw [List.take_length] at h
      exact ⟨rfl, h, HR.out.2⟩
end Go.Proofs.Ytdjcdecbmeickaa
namespace Go.Proofs.Ytdjcdecbmeickaa
set_option maxHeartbeats 64000000
set_option maxRecDepth 100000
open Go.RowKit Go.Lib
theorem salts_any (n : Nat) (hP : DocC n) (b : Nat) (st : Fo) (cl : List Nm) (ac : Option Addr) (cc : Nat) (sc : List Nm) (ai : Option Addr) (ci : Nat) (l : List Alt) (hz : ∀ y, y ∈ l → SizeOf.sizeOf y.2.2.2.2.2 ≤ n) (hw : ∀ y, y ∈ l → wA y) (hn : sc.length + sumN nA l ≤ 100000) (a : Option Addr) (c : Nat) (xs : List Value) (w : World) (hS : SAt w b st (.slice ac cl.length cc)) (hc : RowAt w (Apart b) 9 1 (.slice ac cl.length cc) cl.length (namesV cl)) (hi : RowAt w (Apart b) 9 1 (.slice ai sc.length ci) sc.length (namesV sc)) (hr : RowAt w (Apart b) 51 13 (.slice a l.length c) l.length xs) (ht : AltsAt w (Apart b) l xs) :
    Calls Try.prog 59 #[.pointer (some ⟨b, 0, none⟩), .slice a l.length c, .slice ai sc.length ci] w fun e w' => e = .returned (.tuple #[]) ∧ SAt w' b (st.or (sdAs cl sc l)) (.slice ac cl.length cc) ∧ w.grownBy w' (some b) := by
  have HO := Hd (Ai hr (Ai ht (Ai hc hi)))
  have HS := Hd hS
  have HQ := Hd (Ai hz hw)
  have hmx := hr.cap
  unfold maxLen at hmx
  clear hr ht hc hi hS hz hw
  rw [sdAs_first]
  go_enter Try.func59, Try.ntmps59
  go_wp2_with fail
  go_loopw [6] (fun s wr => ∃ j : Nat, j ≤ l.length ∧ s = .int .i64 j ∧ SAt wr b (st.or (firstF (sdA cl sc) (l.take j))) (.slice ac cl.length cc) ∧ w.grownBy wr (some b)) (fun s _ => l.length - (RowKit.intOf s).toNat)
  case atStart => exact ⟨0, Nat.zero_le _, rfl, by rw [List.take_zero, show firstF (sdA cl sc) [] = none from rfl, or_nil_l]; exact HS.out, grown_of Br⟩
  case round =>
    obtain ⟨j, hj, rfl, hs1, hg1⟩ := hrel
    have HR := Hd (Ai hs1 hg1)
    clear hs1 hg1
    by_cases gj : j < l.length
    · have gj' : (j : Int) < (l.length : Int) := by omega
      obtain ⟨aq, cq, k, nm, f, u, ap, np, cp, ak, nk, ck, ab, nb, cb, aa, na, ca, hQ, hE, hcs⟩ := HO.out.2.1.cells j gj
      obtain ⟨g1, o1, ea1, k1, m1', hgb, ht1⟩ := (HO.out.1.apart HR.out.2).at (by omega)
      subst ea1
      have HP := Hd (fun i v h => ht1 _ _ (hcs i v h))
      have HT := Hd (show l.take (j + 1) = l.take j ++ [l[j]] from List.take_succ_eq_append_getElem gj)
      have HF := Hd (show firstF (sdA cl sc) (l.take (j + 1)) = (firstF (sdA cl sc) (l.take j)).or (sdA cl sc l[j]) by rw [HT.out, firstF_snoc])
      have HZ := Hd (Ai (HQ.out.1 _ (List.getElem_mem gj)) (Ai (HQ.out.2 _ (List.getElem_mem gj)) (sumN_mem nA (List.getElem_mem gj))))
      have HE := Hd (Ai (hQ.apart HR.out.2) (hE.apart HR.out.2))
      clear ht1 hcs hQ hE HT
      generalize l[j] = al at *
      obtain ⟨kd, nb0, fd, ud, ps, body⟩ := al
      have hwt : sc.length + (1 + ps.length + wtE body) ≤ 100000 := by have h : 1 + ps.length + wtE body ≤ sumN nA l := HZ.out.2.2; omega
      have HZ2 := Hd (show SizeOf.sizeOf body ≤ n ∧ wfE body from ⟨HZ.out.1, HZ.out.2.1.2.2⟩)
      have HF2 := Hd (show firstF (sdA cl sc) (l.take (j + 1)) = (firstF (sdA cl sc) (l.take j)).or (if kd = 0 then (hasF cl nb0).or ((twF ps).or (sdE cl (sc ++ ps) body)) else if kd = 2 then sdE cl (sc ++ [nb0]) body else sdE cl sc body) from HF.out)
      replace HE := Hd (show RowAt wr (Apart b) 9 1 (.slice aq ps.length cq) ps.length (namesV ps) ∧ ExAt wr (Apart b) body [.int .i64 k, .string (tx nm), .bool f, .int .u64 u, .slice ap np cp, .slice ak nk ck, .slice ab nb cb, .slice aa na ca] from HE.out)
      replace HP := Hd (show ∀ i v, [.int .i64 kd, .string (tx nb0), .bool fd, .int .u64 ud, .slice aq ps.length cq, .int .i64 k, .string (tx nm), .bool f, .int .u64 u, .slice ap np cp, .slice ak nk ck, .slice ab nb cb, .slice aa na ca][i]? = some v → wr.cell? ⟨g1, o1 + (j * 13 + i), none⟩ = some v from HP.out)
      clear HF
      have ej : IntKind.i64.wrap ((j : Int) + 1) = (j : Int) + 1 := by rw [IntKind.wrap_i64]; omega
      have b0 : (0 : Int) ≤ (j : Int) := by omega
      have HL0 := Hd HR.out.1.lt
      by_cases g0 : kd = 0
      · subst g0
        rw [if_pos rfl] at HF2
        clear HZ
        have n0 : wr.cell? ⟨g1, o1 + j * 13, none⟩ = some (.int .i64 0) := HP.out 0 _ rfl
        have n1 : wr.cell? ⟨g1, o1 + j * 13 + 1, none⟩ = some (.string (tx nb0)) := by rw [Nat.add_assoc]; exact HP.out 1 _ rfl
        have n2 : wr.cell? ⟨g1, o1 + j * 13 + 2, none⟩ = some (.bool fd) := by rw [Nat.add_assoc]; exact HP.out 2 _ rfl
        have n3 : wr.cell? ⟨g1, o1 + j * 13 + 3, none⟩ = some (.int .u64 ud) := by rw [Nat.add_assoc]; exact HP.out 3 _ rfl
        have n4 : wr.cell? ⟨g1, o1 + j * 13 + 4, none⟩ = some (.slice aq ps.length cq) := by rw [Nat.add_assoc]; exact HP.out 4 _ rfl
        have n5 : wr.cell? ⟨g1, o1 + j * 13 + 5, none⟩ = some (.int .i64 k) := by rw [Nat.add_assoc]; exact HP.out 5 _ rfl
        have n6 : wr.cell? ⟨g1, o1 + j * 13 + 6, none⟩ = some (.string (tx nm)) := by rw [Nat.add_assoc]; exact HP.out 6 _ rfl
        have n7 : wr.cell? ⟨g1, o1 + j * 13 + 7, none⟩ = some (.bool f) := by rw [Nat.add_assoc]; exact HP.out 7 _ rfl
        have n8 : wr.cell? ⟨g1, o1 + j * 13 + 8, none⟩ = some (.int .u64 u) := by rw [Nat.add_assoc]; exact HP.out 8 _ rfl
        have n9 : wr.cell? ⟨g1, o1 + j * 13 + 9, none⟩ = some (.slice ap np cp) := by rw [Nat.add_assoc]; exact HP.out 9 _ rfl
        have n10 : wr.cell? ⟨g1, o1 + j * 13 + 10, none⟩ = some (.slice ak nk ck) := by rw [Nat.add_assoc]; exact HP.out 10 _ rfl
        have n11 : wr.cell? ⟨g1, o1 + j * 13 + 11, none⟩ = some (.slice ab nb cb) := by rw [Nat.add_assoc]; exact HP.out 11 _ rfl
        have n12 : wr.cell? ⟨g1, o1 + j * 13 + 12, none⟩ = some (.slice aa na ca) := by rw [Nat.add_assoc]; exact HP.out 12 _ rfl
        have HCn := Hd (scon_any b (st.or (firstF (sdA cl sc) (l.take j))) cl ac cc (Apart b) nb0 wr HR.out.1 (HO.out.2.2.1.apart HR.out.2))
        go_wp2_with fail
        refine HCn.out.mono ?_
        rintro e w3 ⟨rfl, hs3, hg3⟩
        have H3 := Hd (Ai hs3 (Ai (Gt HR.out.2 hg3) (Ai (HE.out.1.apart hg3) (HE.out.2.apart hg3))))
        have l4 := hg3.cell n4 (by simpa using hgb)
        have l5 := hg3.cell n5 (by simpa using hgb)
        have l6 := hg3.cell n6 (by simpa using hgb)
        have l7 := hg3.cell n7 (by simpa using hgb)
        have l8 := hg3.cell n8 (by simpa using hgb)
        have l9 := hg3.cell n9 (by simpa using hgb)
        have l10 := hg3.cell n10 (by simpa using hgb)
        have l11 := hg3.cell n11 (by simpa using hgb)
        have l12 := hg3.cell n12 (by simpa using hgb)
        clear hs3 hg3 HCn n0 n1 n2 n3 n4 n5 n6 n7 n8 n9 n10 n11 n12
        have HTw := Hd (stwice_any b ((st.or (firstF (sdA cl sc) (l.take j))).or (hasF cl nb0)) (.slice ac cl.length cc) ps aq cq (Apart b) (fun _ h => h) w3 H3.out.1 H3.out.2.2.1)
        go_wp2_with fail
        refine HTw.out.mono ?_
        rintro e w4 ⟨rfl, hs4, hg4⟩
        have H4 := Hd (Ai hs4 (Gt H3.out.2.1 hg4))
        have HL := Hd hs4.lt
        have HE4 := Hd (Ai (H3.out.2.2.1.apart hg4) (H3.out.2.2.2.apart hg4))
        have p4 := hg4.cell l4 (by simpa using hgb)
        have p5 := hg4.cell l5 (by simpa using hgb)
        have p6 := hg4.cell l6 (by simpa using hgb)
        have p7 := hg4.cell l7 (by simpa using hgb)
        have p8 := hg4.cell l8 (by simpa using hgb)
        have p9 := hg4.cell l9 (by simpa using hgb)
        have p10 := hg4.cell l10 (by simpa using hgb)
        have p11 := hg4.cell l11 (by simpa using hgb)
        have p12 := hg4.cell l12 (by simpa using hgb)
        have hwt2 : sc.length + ps.length ≤ 100000 := by omega
        obtain ⟨sc2, hsc2⟩ : ∃ sc2, sc2 = sc ++ ps := ⟨_, rfl⟩
        have hwt3 : sc2.length + wtE body ≤ 100000 := by rw [hsc2, List.length_append]; omega
        have HJ := Hd (fun (V : World) (hb : Below w4.heap.size w4 V) => join_here b sc ps ai ci aq cq hwt2 w4 V hb (HO.out.2.2.2.apart H4.out.2) (Apart b) (HE4.out.1.apartB hb))
        rw [← hsc2] at HJ HF2
        have HXp := Hd (fun (V : World) (a2 : Option Addr) (c2 : Nat) (hb : Below w4.heap.size w4 V) (ho : RowAt V (Apart b) 9 1 (.slice a2 sc2.length c2) sc2.length (namesV sc2)) => hP body b (((st.or (firstF (sdA cl sc) (l.take j))).or (hasF cl nb0)).or (twF ps)) cl ac cc sc2 a2 c2 V k nm f u ap np cp ak nk ck ab nb cb aa na ca HZ2.out.1 HZ2.out.2 hwt3 (H4.out.1.later hb) ((HO.out.2.2.1.apart H4.out.2).apartB hb) ho (HE4.out.2.apartB hb))
        clear hs4 hg4 HTw hsc2 HE HP l4 l5 l6 l7 l8 l9 l10 l11 l12
        go_wp2_with fail
        go_region_held3 (fun W' => W'.cell? ⟨g1, o1 + j * 13 + 4, none⟩ = some (.slice aq ps.length cq) ∧ W'.cell? ⟨g1, o1 + j * 13 + 5, none⟩ = some (.int .i64 k) ∧ W'.cell? ⟨g1, o1 + j * 13 + 6, none⟩ = some (.string (tx nm)) ∧ W'.cell? ⟨g1, o1 + j * 13 + 7, none⟩ = some (.bool f) ∧ W'.cell? ⟨g1, o1 + j * 13 + 8, none⟩ = some (.int .u64 u) ∧ W'.cell? ⟨g1, o1 + j * 13 + 9, none⟩ = some (.slice ap np cp) ∧ W'.cell? ⟨g1, o1 + j * 13 + 10, none⟩ = some (.slice ak nk ck) ∧ W'.cell? ⟨g1, o1 + j * 13 + 11, none⟩ = some (.slice ab nb cb) ∧ W'.cell? ⟨g1, o1 + j * 13 + 12, none⟩ = some (.slice aa na ca)) (first | exact ⟨r4, r5, r6, r7, r8, r9, r10, r11, r12⟩ | exact ⟨q4, q5, q6, q7, q8, q9, q10, q11, q12⟩ | exact ⟨p4, p5, p6, p7, p8, p9, p10, p11, p12⟩ | exact ⟨m4, m5, m6, m7, m8, m9, m10, m11, m12⟩ | go_keep) (first
          | (go_at_call 39
             refine (HJ.out _ ?hb).mono ?_
             case hb => exact Br.drew
             rintro e w5 ⟨⟨a2, c2, rfl, ho⟩, hb5⟩
             have H5 : Below w4.heap.size w4 w5 := onB' (Below.refl w4.heap.size w4).drew hb5
             have ho5 := ho HL.out
             have q4 := later' H5 p4
             have q5 := later' H5 p5
             have q6 := later' H5 p6
             have q7 := later' H5 p7
             have q8 := later' H5 p8
             have q9 := later' H5 p9
             have q10 := later' H5 p10
             have q11 := later' H5 p11
             have q12 := later' H5 p12
             clear ho)
          | (go_at_call 38
             refine (HXp.out w5 a2 c2 H5 ho5).mono ?_
             rintro e w6 ⟨rfl, hs6, hg6⟩
             have r4 := hg6.cell q4 (by simpa using hgb)
             have r5 := hg6.cell q5 (by simpa using hgb)
             have r6 := hg6.cell q6 (by simpa using hgb)
             have r7 := hg6.cell q7 (by simpa using hgb)
             have r8 := hg6.cell q8 (by simpa using hgb)
             have r9 := hg6.cell q9 (by simpa using hgb)
             have r10 := hg6.cell q10 (by simpa using hgb)
             have r11 := hg6.cell q11 (by simpa using hgb)
             have r12 := hg6.cell q12 (by simpa using hgb)
             have H6 := Gt (grown_of (b := b) H5) hg6))
        all_goals go_wp2_with fail
        all_goals (refine ⟨⟨j + 1, by omega, by go_num, ?_, Gt H4.out.2 H6⟩, by simp [RowKit.intOf]; omega⟩; rw [HF2.out]; have h := hs6; rwa [or_assoc_f, or_assoc_f, or_assoc_f] at h)
      · rw [if_neg g0] at HF2
        by_cases g2 : kd = 2
        · subst g2
          rw [if_pos rfl] at HF2
          have hnb : NmOk nb0 := HZ.out.2.1.1 (Or.inr rfl)
          clear HZ
          have m1 : wr.cell? ⟨g1, o1 + j * 13 + 1, none⟩ = some (.string (tx nb0)) := by rw [Nat.add_assoc]; exact HP.out 1 _ rfl
          have m5 : wr.cell? ⟨g1, o1 + j * 13 + 5, none⟩ = some (.int .i64 k) := by rw [Nat.add_assoc]; exact HP.out 5 _ rfl
          have m6 : wr.cell? ⟨g1, o1 + j * 13 + 6, none⟩ = some (.string (tx nm)) := by rw [Nat.add_assoc]; exact HP.out 6 _ rfl
          have m7 : wr.cell? ⟨g1, o1 + j * 13 + 7, none⟩ = some (.bool f) := by rw [Nat.add_assoc]; exact HP.out 7 _ rfl
          have m8 : wr.cell? ⟨g1, o1 + j * 13 + 8, none⟩ = some (.int .u64 u) := by rw [Nat.add_assoc]; exact HP.out 8 _ rfl
          have m9 : wr.cell? ⟨g1, o1 + j * 13 + 9, none⟩ = some (.slice ap np cp) := by rw [Nat.add_assoc]; exact HP.out 9 _ rfl
          have m10 : wr.cell? ⟨g1, o1 + j * 13 + 10, none⟩ = some (.slice ak nk ck) := by rw [Nat.add_assoc]; exact HP.out 10 _ rfl
          have m11 : wr.cell? ⟨g1, o1 + j * 13 + 11, none⟩ = some (.slice ab nb cb) := by rw [Nat.add_assoc]; exact HP.out 11 _ rfl
          have m12 : wr.cell? ⟨g1, o1 + j * 13 + 12, none⟩ = some (.slice aa na ca) := by rw [Nat.add_assoc]; exact HP.out 12 _ rfl
          have n0 : wr.cell? ⟨g1, o1 + j * 13, none⟩ = some (.int .i64 2) := HP.out 0 _ rfl
          have hy : Below wr.heap.size wr (wr.drew.alloc (.cells #[.string (tx nb0)] 9)) := ((Below.refl wr.heap.size wr).drew).alloc Nr _
          have hrow : RowAt (wr.drew.alloc (.cells #[.string (tx nb0)] 9)) (fun _ => True) 9 1 (.slice (some ⟨wr.heap.size, 0, none⟩) 1 1) 1 (namesV [nb0]) := name_row (heap_alloc_new wr.drew _)
          have HY := Hd hy
          have p1 : (wr.drew.alloc (.cells #[.string (tx nb0)] 9)).cell? ⟨g1, o1 + j * 13 + 1, none⟩ = some (.string (tx nb0)) := later' hy m1
          have p5 : (wr.drew.alloc (.cells #[.string (tx nb0)] 9)).cell? ⟨g1, o1 + j * 13 + 5, none⟩ = some (.int .i64 k) := later' hy m5
          have p6 : (wr.drew.alloc (.cells #[.string (tx nb0)] 9)).cell? ⟨g1, o1 + j * 13 + 6, none⟩ = some (.string (tx nm)) := later' hy m6
          have p7 : (wr.drew.alloc (.cells #[.string (tx nb0)] 9)).cell? ⟨g1, o1 + j * 13 + 7, none⟩ = some (.bool f) := later' hy m7
          have p8 : (wr.drew.alloc (.cells #[.string (tx nb0)] 9)).cell? ⟨g1, o1 + j * 13 + 8, none⟩ = some (.int .u64 u) := later' hy m8
          have p9 : (wr.drew.alloc (.cells #[.string (tx nb0)] 9)).cell? ⟨g1, o1 + j * 13 + 9, none⟩ = some (.slice ap np cp) := later' hy m9
          have p10 : (wr.drew.alloc (.cells #[.string (tx nb0)] 9)).cell? ⟨g1, o1 + j * 13 + 10, none⟩ = some (.slice ak nk ck) := later' hy m10
          have p11 : (wr.drew.alloc (.cells #[.string (tx nb0)] 9)).cell? ⟨g1, o1 + j * 13 + 11, none⟩ = some (.slice ab nb cb) := later' hy m11
          have p12 : (wr.drew.alloc (.cells #[.string (tx nb0)] 9)).cell? ⟨g1, o1 + j * 13 + 12, none⟩ = some (.slice aa na ca) := later' hy m12
          have hwt2 : sc.length + 1 ≤ 100000 := by omega
          obtain ⟨sc2, hsc2⟩ : ∃ sc2, sc2 = sc ++ [nb0] := ⟨_, rfl⟩
          have hwt3 : sc2.length + wtE body ≤ 100000 := by rw [hsc2, List.length_append]; simp only [List.length_cons, List.length_nil]; omega
          have HJ := Hd (fun (V : World) (hb : V = wr.drew.alloc (.cells #[.string (tx nb0)] 9)) => join_here b sc [nb0] ai ci (some ⟨wr.heap.size, 0, none⟩) 1 hwt2 wr V (by rw [hb]; exact HY.out) (HO.out.2.2.2.apart HR.out.2) (fun _ => True) (by rw [hb]; exact hrow))
          rw [← hsc2] at HJ HF2
          have HL := Hd (show b < (wr.drew.alloc (.cells #[.string (tx nb0)] 9)).heap.size from Nat.lt_of_lt_of_le HL0.out HY.out.size)
          have HXp := Hd (fun (V : World) (a2 : Option Addr) (c2 : Nat) (hb : Below wr.heap.size wr V) (ho : RowAt V (Apart b) 9 1 (.slice a2 sc2.length c2) sc2.length (namesV sc2)) => hP body b (st.or (firstF (sdA cl sc) (l.take j))) cl ac cc sc2 a2 c2 V k nm f u ap np cp ak nk ck ab nb cb aa na ca HZ2.out.1 HZ2.out.2 hwt3 (HR.out.1.later hb) ((HO.out.2.2.1.apart HR.out.2).apartB hb) ho (HE.out.2.apartB hb))
          clear hsc2 hrow hy HP
          have f0 : ((2 : Int) == 0) = false := rfl
          go_wp2_with fail
          go_region_held3 (fun W' => W'.cell? ⟨g1, o1 + j * 13 + 1, none⟩ = some (.string (tx nb0)) ∧ W'.cell? ⟨g1, o1 + j * 13 + 5, none⟩ = some (.int .i64 k) ∧ W'.cell? ⟨g1, o1 + j * 13 + 6, none⟩ = some (.string (tx nm)) ∧ W'.cell? ⟨g1, o1 + j * 13 + 7, none⟩ = some (.bool f) ∧ W'.cell? ⟨g1, o1 + j * 13 + 8, none⟩ = some (.int .u64 u) ∧ W'.cell? ⟨g1, o1 + j * 13 + 9, none⟩ = some (.slice ap np cp) ∧ W'.cell? ⟨g1, o1 + j * 13 + 10, none⟩ = some (.slice ak nk ck) ∧ W'.cell? ⟨g1, o1 + j * 13 + 11, none⟩ = some (.slice ab nb cb) ∧ W'.cell? ⟨g1, o1 + j * 13 + 12, none⟩ = some (.slice aa na ca)) (first | exact ⟨r1, r5, r6, r7, r8, r9, r10, r11, r12⟩ | exact ⟨q1, q5, q6, q7, q8, q9, q10, q11, q12⟩ | exact ⟨p1, p5, p6, p7, p8, p9, p10, p11, p12⟩ | exact ⟨m1, m5, m6, m7, m8, m9, m10, m11, m12⟩ | go_keep) (first
            | (go_at_call 39
               refine (HJ.out _ ?hb).mono ?_
               case hb => exact rfl
               rintro e w5 ⟨⟨a2, c2, rfl, ho⟩, hb5⟩
               have H5 : Below wr.heap.size wr w5 := onB' HY.out hb5
               have ho5 := ho HL.out
               have q1 := later' H5 m1
               have q5 := later' H5 m5
               have q6 := later' H5 m6
               have q7 := later' H5 m7
               have q8 := later' H5 m8
               have q9 := later' H5 m9
               have q10 := later' H5 m10
               have q11 := later' H5 m11
               have q12 := later' H5 m12
               clear ho)
            | (go_at_call 38
               refine (HXp.out w5 a2 c2 H5 ho5).mono ?_
               rintro e w6 ⟨rfl, hs6, hg6⟩
               have r1 := hg6.cell q1 (by simpa using hgb)
               have r5 := hg6.cell q5 (by simpa using hgb)
               have r6 := hg6.cell q6 (by simpa using hgb)
               have r7 := hg6.cell q7 (by simpa using hgb)
               have r8 := hg6.cell q8 (by simpa using hgb)
               have r9 := hg6.cell q9 (by simpa using hgb)
               have r10 := hg6.cell q10 (by simpa using hgb)
               have r11 := hg6.cell q11 (by simpa using hgb)
               have r12 := hg6.cell q12 (by simpa using hgb)
               have H6 := Gt (grown_of (b := b) H5) hg6))
          all_goals go_wp2_with fail
          all_goals (refine ⟨⟨j + 1, by omega, by go_num, ?_, Gt HR.out.2 H6⟩, by simp [RowKit.intOf]; omega⟩; rw [HF2.out]; have h := hs6; rwa [or_assoc_f] at h)
        · rw [if_neg g2] at HF2
          have f0 : (kd == 0) = false := by simpa using g0
          have f2 : (kd == 2) = false := by simpa using g2
          clear HZ
          have n0 : wr.cell? ⟨g1, o1 + j * 13, none⟩ = some (.int .i64 kd) := HP.out 0 _ rfl
          have n5 : wr.cell? ⟨g1, o1 + j * 13 + 5, none⟩ = some (.int .i64 k) := by rw [Nat.add_assoc]; exact HP.out 5 _ rfl
          have n6 : wr.cell? ⟨g1, o1 + j * 13 + 6, none⟩ = some (.string (tx nm)) := by rw [Nat.add_assoc]; exact HP.out 6 _ rfl
          have n7 : wr.cell? ⟨g1, o1 + j * 13 + 7, none⟩ = some (.bool f) := by rw [Nat.add_assoc]; exact HP.out 7 _ rfl
          have n8 : wr.cell? ⟨g1, o1 + j * 13 + 8, none⟩ = some (.int .u64 u) := by rw [Nat.add_assoc]; exact HP.out 8 _ rfl
          have n9 : wr.cell? ⟨g1, o1 + j * 13 + 9, none⟩ = some (.slice ap np cp) := by rw [Nat.add_assoc]; exact HP.out 9 _ rfl
          have n10 : wr.cell? ⟨g1, o1 + j * 13 + 10, none⟩ = some (.slice ak nk ck) := by rw [Nat.add_assoc]; exact HP.out 10 _ rfl
          have n11 : wr.cell? ⟨g1, o1 + j * 13 + 11, none⟩ = some (.slice ab nb cb) := by rw [Nat.add_assoc]; exact HP.out 11 _ rfl
          have n12 : wr.cell? ⟨g1, o1 + j * 13 + 12, none⟩ = some (.slice aa na ca) := by rw [Nat.add_assoc]; exact HP.out 12 _ rfl
          have HXp := Hd (hP body b (st.or (firstF (sdA cl sc) (l.take j))) cl ac cc sc ai ci wr k nm f u ap np cp ak nk ck ab nb cb aa na ca HZ2.out.1 HZ2.out.2 (by omega) HR.out.1 (HO.out.2.2.1.apart HR.out.2) (HO.out.2.2.2.apart HR.out.2) HE.out.2)
          go_wp2_with fail
          refine HXp.out.mono ?_
          rintro e w6 ⟨rfl, hs6, hg6⟩
          have H6 := Hd (Ai hs6 hg6)
          clear hs6 hg6 HXp
          go_wp2_with fail
          refine ⟨⟨j + 1, by omega, by go_num, ?_, Gt HR.out.2 H6.out.2⟩, by simp [RowKit.intOf]; omega⟩
          rw [HF2.out]
          have h := H6.out.1
          rwa [or_assoc_f] at h
    · obtain rfl : j = l.length := by omega
      go_wp2_with fail
      go_end0
      have h := HR.out.1
      rw [List.take_length] at h
      exact ⟨rfl, h, HR.out.2⟩
end Go.Proofs.Ytdjcdecbmeickaa
namespace Go.Proofs.Ytdjcdecbmeickaa
set_option maxHeartbeats 64000000
set_option maxRecDepth 100000
open Go.RowKit Go.Lib
theorem doc_step (n : Nat) (hP : DocC n) : DocC (n + 1) := by
  intro x b st cl ac cc sc ai ci w k nm f u ap np cp ak nk ck ab nb cb aa na ca hz hw hn hS hc hi ht
  obtain ⟨ps, ks, bl, al, xk, xb, xa, rfl, rfl, rfl, rfl, rfl, hp, hk, hb, ha, tk, tb, ta⟩ := ht.opened
  have hN := NodeOk.of hz hw hn
  have hwt := hN.wt
  have hmk := hk.cap
  unfold maxLen at hmk
  have HNE := Hd (show w.heap.size ≠ b from fun e => by have := hS.lt; omega)
  have HLT := Hd hS.lt
  have HO := Hd (Ai hc (Ai hk (Ai tk (Ai ha ta))))
  have HO2 := Hd (Ai hp (Ai hb tb))
  clear hz hw hn ht hk tk ha ta hp hb tb hc
  have hx := (Below.refl w.heap.size w).alloc Nr (.cells #[.int .i64 k, .string (tx nm), .bool f, .int .u64 u, .slice ap ps.length cp, .slice ak ks.length ck, .slice ab bl.length cb, .slice aa al.length ca] 34)
  have hBx := BoxW.alloc w #[.int .i64 k, .string (tx nm), .bool f, .int .u64 u, .slice ap ps.length cp, .slice ak ks.length ck, .slice ab bl.length cb, .slice aa al.length ca] 34
  have HX := Hd (Ai hx hBx)
  have HS := Hd (Ai hS hi)
  clear hx hBx hS hi
  by_cases g1 : k = 1
  · subst g1
    have HSD := Hd (show sdE cl sc (.mk 1 nm f u ps ks bl al) = (hasF sc nm).or ((sdEs cl sc ks).or (sdAs cl sc al)) by unfold sdE; rw [if_pos rfl])
    have f1 : ((1 : Int) == 1) = true := rfl
    have f2 : ((1 : Int) == 2) = false := rfl
    have f6 : ((1 : Int) == 6) = false := rfl
    have f8 : ((1 : Int) == 8) = false := rfl
    go_enter Try.func38, Try.ntmps38
    go_upto_region 1 with fail
    generalize (w.alloc (.cells #[.int .i64 1, .string (tx nm), .bool f, .int .u64 u, .slice ap ps.length cp, .slice ak ks.length ck, .slice ab bl.length cb, .slice aa al.length ca] 34)) = W at *
    have c1 : W.cell? ⟨w.heap.size, 1, none⟩ = some (.string (tx nm)) := HX.out.2.1 1 _ rfl
    have c0 : W.cell? ⟨w.heap.size, 0, none⟩ = some (.int .i64 1) := HX.out.2.1 0 _ rfl
    have HI := Hd (in_any sc nm ai ci (Apart b) W (HS.out.2.apartB HX.out.1))
    go_wp2_with fail
    refine HI.out.mono ?_
    rintro e w2 ⟨rfl, hb2⟩
    have H2 := Hd (Ai (HS.out.1.later (onB' HX.out.1 hb2)) (Ai (onB' HX.out.1 hb2) (HX.out.2.below hb2)))
    have c1' := later' hb2 c1
    clear hb2 HI c0 c1
    by_cases gi : nm ∈ sc
    · rw [decide_eq_true gi]
      have hf : hasF sc nm = none := if_pos gi
      have HB := Hd (Ai H2.out.1 (Ai (grown_of (b := b) H2.out.2.1) (Ai (HS.out.2.apartB H2.out.2.1) H2.out.2.2)))
      go_wp2_with fail
      clear f1 f2 f6 f8 c1'
      go_loopw [7] (fun s wr => ∃ j : Nat, j ≤ ks.length ∧ s = .int .i64 j ∧ SAt wr b ((st).or (firstF (sdE cl sc) (ks.take j))) (.slice ac cl.length cc) ∧ w2.grownBy wr (some b)) (fun s _ => ks.length - (RowKit.intOf s).toNat)
      case atStart => exact ⟨0, Nat.zero_le _, rfl, by rw [List.take_zero, show firstF (sdE cl sc) [] = none from rfl, or_nil_l]; exact HB.out.1, grown_of Br⟩
      case round =>
        obtain ⟨j, hj, rfl, hs1, hg1⟩ := hrel
        have HR := Hd (Ai hs1 (Ai (Gt HB.out.2.1 hg1) (Ai (HB.out.2.2.1.apart hg1) (HB.out.2.2.2.grown hg1 HNE.out))))
        have HG1 := Hd hg1
        clear hs1 hg1
        have x5 : wr.cell? ⟨w.heap.size, 5, none⟩ = some (.slice ak ks.length ck) := HR.out.2.2.2.1 5 _ rfl
        have x7 : wr.cell? ⟨w.heap.size, 7, none⟩ = some (.slice aa al.length ca) := HR.out.2.2.2.1 7 _ rfl
        by_cases gj : j < ks.length
        · have gj' : (j : Int) < (ks.length : Int) := by omega
          obtain ⟨k9, nm9, f9, u9, ap9, np9, cp9, ak9, nk9, ck9, ab9, nb9, cb9, aa9, na9, ca9, hE, hcs⟩ := HO.out.2.2.1.cells j gj
          obtain ⟨g1, o1, ea1, k1, m1', hgb, ht1⟩ := (HO.out.2.1.apart HR.out.2.1).at (by omega)
          subst ea1
          have HP := Hd (fun i v h => ht1 _ _ (hcs i v h))
          have HT := Hd (show firstF (sdE cl sc) (ks.take (j + 1)) = (firstF (sdE cl sc) (ks.take j)).or (sdE cl sc ks[j]) by rw [List.take_succ_eq_append_getElem gj, firstF_snoc])
          have HXp := Hd (hP ks[j] b ((st).or (firstF (sdE cl sc) (ks.take j))) cl ac cc sc ai ci wr k9 nm9 f9 u9 ap9 np9 cp9 ak9 nk9 ck9 ab9 nb9 cb9 aa9 na9 ca9 (hN.sk _ (List.getElem_mem gj)) (hN.wk _ (List.getElem_mem gj)) (by have := sumN_mem wtE (List.getElem_mem gj); omega) HR.out.1 (HO.out.1.apart HR.out.2.1) HR.out.2.2.1 (hE.apart HR.out.2.1))
          clear ht1 hcs hE
          generalize ks[j] = tk at *
          have p0 : wr.cell? ⟨g1, o1 + j * 8, none⟩ = some (.int .i64 k9) := HP.out 0 _ rfl
          have p1 : wr.cell? ⟨g1, o1 + j * 8 + 1, none⟩ = some (.string (tx nm9)) := by rw [Nat.add_assoc]; exact HP.out 1 _ rfl
          have p2 : wr.cell? ⟨g1, o1 + j * 8 + 2, none⟩ = some (.bool f9) := by rw [Nat.add_assoc]; exact HP.out 2 _ rfl
          have p3 : wr.cell? ⟨g1, o1 + j * 8 + 3, none⟩ = some (.int .u64 u9) := by rw [Nat.add_assoc]; exact HP.out 3 _ rfl
          have p4 : wr.cell? ⟨g1, o1 + j * 8 + 4, none⟩ = some (.slice ap9 np9 cp9) := by rw [Nat.add_assoc]; exact HP.out 4 _ rfl
          have p5 : wr.cell? ⟨g1, o1 + j * 8 + 5, none⟩ = some (.slice ak9 nk9 ck9) := by rw [Nat.add_assoc]; exact HP.out 5 _ rfl
          have p6 : wr.cell? ⟨g1, o1 + j * 8 + 6, none⟩ = some (.slice ab9 nb9 cb9) := by rw [Nat.add_assoc]; exact HP.out 6 _ rfl
          have p7 : wr.cell? ⟨g1, o1 + j * 8 + 7, none⟩ = some (.slice aa9 na9 ca9) := by rw [Nat.add_assoc]; exact HP.out 7 _ rfl
          have ej : IntKind.i64.wrap ((j : Int) + 1) = (j : Int) + 1 := by rw [IntKind.wrap_i64]; omega
          have b0 : (0 : Int) ≤ (j : Int) := by omega
          go_wp2_with fail
          refine HXp.out.mono ?_
          rintro e w6 ⟨rfl, hs6, hg6⟩
          have H6 := Hd (Ai hs6 hg6)
          clear hs6 hg6 HXp p0 p1 p2 p3 p4 p5 p6 p7 x5 x7
          go_wp2_with fail
          refine ⟨⟨j + 1, by omega, by go_num, ?_, ?_⟩, by simp [RowKit.intOf]; omega⟩
          · rw [HT.out]
            have h := H6.out.1
            rwa [or_assoc_f] at h
          · exact Gt HG1.out H6.out.2
        · obtain rfl : j = ks.length := by omega
          have hs2 := HR.out.1
          rw [List.take_length] at hs2
          have HA := Hd (salts_any n hP b ((st).or (firstF (sdE cl sc) ks)) cl ac cc sc ai ci al hN.sa hN.wa (by omega) aa ca xa wr hs2 (HO.out.1.apart HR.out.2.1) HR.out.2.2.1 (HO.out.2.2.2.1.apart HR.out.2.1) (HO.out.2.2.2.2.move fun g hg lt => ⟨hg, HR.out.2.1.block g lt (by simpa using hg)⟩))
          clear hs2
          go_wp2_with fail
          refine HA.out.mono ?_
          rintro e w6 ⟨rfl, hs6, hg6⟩
          have H6 := Hd (Ai hs6 (Gt HR.out.2.1 hg6))
          clear hs6 hg6 HA x5 x7
          go_wp2_with fail
          go_end0
          refine ⟨rfl, ?_, H6.out.2⟩
          rw [HSD.out, hf, Option.none_or, ← or_assoc_f]
          have h := H6.out.1
          rw [← sdEs_first] at h
          exact h
    · rw [decide_eq_false gi]
      have hf : hasF sc nm = some (4, nm) := if_neg gi
      have HFl := Hd (sfault_any b st (.slice ac cl.length cc) 4 (by decide) nm w2 H2.out.1)
      go_wp2_with fail
      refine HFl.out.mono ?_
      rintro e w3 ⟨rfl, hs3, hg3⟩
      have hgw := Gt (grown_of (b := b) H2.out.2.1) hg3
      have HB := Hd (Ai hs3 (Ai hgw (Ai (HS.out.2.apart hgw) (H2.out.2.2.grown hg3 HNE.out))))
      clear hs3 hg3 hgw HFl c1'
      go_wp2_with fail
      clear f1 f2 f6 f8
      go_loopw [7] (fun s wr => ∃ j : Nat, j ≤ ks.length ∧ s = .int .i64 j ∧ SAt wr b ((st.or (some (4, nm))).or (firstF (sdE cl sc) (ks.take j))) (.slice ac cl.length cc) ∧ w3.grownBy wr (some b)) (fun s _ => ks.length - (RowKit.intOf s).toNat)
      case atStart => exact ⟨0, Nat.zero_le _, rfl, by rw [List.take_zero, show firstF (sdE cl sc) [] = none from rfl, or_nil_l]; exact HB.out.1, grown_of Br⟩
      case round =>
        obtain ⟨j, hj, rfl, hs1, hg1⟩ := hrel
        have HR := Hd (Ai hs1 (Ai (Gt HB.out.2.1 hg1) (Ai (HB.out.2.2.1.apart hg1) (HB.out.2.2.2.grown hg1 HNE.out))))
        have HG1 := Hd hg1
        clear hs1 hg1
        have x5 : wr.cell? ⟨w.heap.size, 5, none⟩ = some (.slice ak ks.length ck) := HR.out.2.2.2.1 5 _ rfl
        have x7 : wr.cell? ⟨w.heap.size, 7, none⟩ = some (.slice aa al.length ca) := HR.out.2.2.2.1 7 _ rfl
        by_cases gj : j < ks.length
        · have gj' : (j : Int) < (ks.length : Int) := by omega
          obtain ⟨k9, nm9, f9, u9, ap9, np9, cp9, ak9, nk9, ck9, ab9, nb9, cb9, aa9, na9, ca9, hE, hcs⟩ := HO.out.2.2.1.cells j gj
          obtain ⟨g1, o1, ea1, k1, m1', hgb, ht1⟩ := (HO.out.2.1.apart HR.out.2.1).at (by omega)
          subst ea1
          have HP := Hd (fun i v h => ht1 _ _ (hcs i v h))
          have HT := Hd (show firstF (sdE cl sc) (ks.take (j + 1)) = (firstF (sdE cl sc) (ks.take j)).or (sdE cl sc ks[j]) by rw [List.take_succ_eq_append_getElem gj, firstF_snoc])
          have HXp := Hd (hP ks[j] b ((st.or (some (4, nm))).or (firstF (sdE cl sc) (ks.take j))) cl ac cc sc ai ci wr k9 nm9 f9 u9 ap9 np9 cp9 ak9 nk9 ck9 ab9 nb9 cb9 aa9 na9 ca9 (hN.sk _ (List.getElem_mem gj)) (hN.wk _ (List.getElem_mem gj)) (by have := sumN_mem wtE (List.getElem_mem gj); omega) HR.out.1 (HO.out.1.apart HR.out.2.1) HR.out.2.2.1 (hE.apart HR.out.2.1))
          clear ht1 hcs hE
          generalize ks[j] = tk at *
          have p0 : wr.cell? ⟨g1, o1 + j * 8, none⟩ = some (.int .i64 k9) := HP.out 0 _ rfl
          have p1 : wr.cell? ⟨g1, o1 + j * 8 + 1, none⟩ = some (.string (tx nm9)) := by rw [Nat.add_assoc]; exact HP.out 1 _ rfl
          have p2 : wr.cell? ⟨g1, o1 + j * 8 + 2, none⟩ = some (.bool f9) := by rw [Nat.add_assoc]; exact HP.out 2 _ rfl
          have p3 : wr.cell? ⟨g1, o1 + j * 8 + 3, none⟩ = some (.int .u64 u9) := by rw [Nat.add_assoc]; exact HP.out 3 _ rfl
          have p4 : wr.cell? ⟨g1, o1 + j * 8 + 4, none⟩ = some (.slice ap9 np9 cp9) := by rw [Nat.add_assoc]; exact HP.out 4 _ rfl
          have p5 : wr.cell? ⟨g1, o1 + j * 8 + 5, none⟩ = some (.slice ak9 nk9 ck9) := by rw [Nat.add_assoc]; exact HP.out 5 _ rfl
          have p6 : wr.cell? ⟨g1, o1 + j * 8 + 6, none⟩ = some (.slice ab9 nb9 cb9) := by rw [Nat.add_assoc]; exact HP.out 6 _ rfl
          have p7 : wr.cell? ⟨g1, o1 + j * 8 + 7, none⟩ = some (.slice aa9 na9 ca9) := by rw [Nat.add_assoc]; exact HP.out 7 _ rfl
          have ej : IntKind.i64.wrap ((j : Int) + 1) = (j : Int) + 1 := by rw [IntKind.wrap_i64]; omega
          have b0 : (0 : Int) ≤ (j : Int) := by omega
          go_wp2_with fail
          refine HXp.out.mono ?_
          rintro e w6 ⟨rfl, hs6, hg6⟩
          have H6 := Hd (Ai hs6 hg6)
          clear hs6 hg6 HXp p0 p1 p2 p3 p4 p5 p6 p7 x5 x7
          go_wp2_with fail
          refine ⟨⟨j + 1, by omega, by go_num, ?_, ?_⟩, by simp [RowKit.intOf]; omega⟩
          · rw [HT.out]
            have h := H6.out.1
            rwa [or_assoc_f] at h
          · exact Gt HG1.out H6.out.2
        · obtain rfl : j = ks.length := by omega
          have hs2 := HR.out.1
          rw [List.take_length] at hs2
          have HA := Hd (salts_any n hP b ((st.or (some (4, nm))).or (firstF (sdE cl sc) ks)) cl ac cc sc ai ci al hN.sa hN.wa (by omega) aa ca xa wr hs2 (HO.out.1.apart HR.out.2.1) HR.out.2.2.1 (HO.out.2.2.2.1.apart HR.out.2.1) (HO.out.2.2.2.2.move fun g hg lt => ⟨hg, HR.out.2.1.block g lt (by simpa using hg)⟩))
          clear hs2
          go_wp2_with fail
          refine HA.out.mono ?_
          rintro e w6 ⟨rfl, hs6, hg6⟩
          have H6 := Hd (Ai hs6 (Gt HR.out.2.1 hg6))
          clear hs6 hg6 HA x5 x7
          go_wp2_with fail
          go_end0
          refine ⟨rfl, ?_, H6.out.2⟩
          rw [HSD.out, hf, ← or_assoc_f, ← or_assoc_f]
          have h := H6.out.1
          rw [← sdEs_first] at h
          exact h
  by_cases g2 : k = 2
  · subst g2
    have HSD := Hd (show sdE cl sc (.mk 2 nm f u ps ks bl al) = (hasF cl nm).or ((sdEs cl sc ks).or (sdAs cl sc al)) by unfold sdE; rw [if_neg (by decide), if_pos rfl])
    have f1 : ((2 : Int) == 1) = false := rfl
    have f2 : ((2 : Int) == 2) = true := rfl
    have f6 : ((2 : Int) == 6) = false := rfl
    have f8 : ((2 : Int) == 8) = false := rfl
    go_enter Try.func38, Try.ntmps38
    go_upto_region 1 with fail
    generalize (w.alloc (.cells #[.int .i64 2, .string (tx nm), .bool f, .int .u64 u, .slice ap ps.length cp, .slice ak ks.length ck, .slice ab bl.length cb, .slice aa al.length ca] 34)) = W at *
    have c1 : W.cell? ⟨w.heap.size, 1, none⟩ = some (.string (tx nm)) := HX.out.2.1 1 _ rfl
    have c0 : W.cell? ⟨w.heap.size, 0, none⟩ = some (.int .i64 2) := HX.out.2.1 0 _ rfl
    have HI := Hd (scon_any b st cl ac cc (Apart b) nm W (HS.out.1.later HX.out.1) (HO.out.1.apartB HX.out.1))
    go_wp2_with fail
    refine HI.out.mono ?_
    rintro e w2 ⟨rfl, hs3, hg3⟩
    have hgw := Gt (grown_of (b := b) HX.out.1) hg3
    have HB := Hd (Ai hs3 (Ai hgw (Ai (HS.out.2.apart hgw) (HX.out.2.grown hg3 HNE.out))))
    clear hs3 hg3 hgw HI c0 c1
    go_wp2_with fail
    clear f1 f2 f6 f8
    go_loopw [7] (fun s wr => ∃ j : Nat, j ≤ ks.length ∧ s = .int .i64 j ∧ SAt wr b ((st.or (hasF cl nm)).or (firstF (sdE cl sc) (ks.take j))) (.slice ac cl.length cc) ∧ w2.grownBy wr (some b)) (fun s _ => ks.length - (RowKit.intOf s).toNat)
    case atStart => exact ⟨0, Nat.zero_le _, rfl, by rw [List.take_zero, show firstF (sdE cl sc) [] = none from rfl, or_nil_l]; exact HB.out.1, grown_of Br⟩
    case round =>
      obtain ⟨j, hj, rfl, hs1, hg1⟩ := hrel
      have HR := Hd (Ai hs1 (Ai (Gt HB.out.2.1 hg1) (Ai (HB.out.2.2.1.apart hg1) (HB.out.2.2.2.grown hg1 HNE.out))))
      have HG1 := Hd hg1
      clear hs1 hg1
      have x5 : wr.cell? ⟨w.heap.size, 5, none⟩ = some (.slice ak ks.length ck) := HR.out.2.2.2.1 5 _ rfl
      have x7 : wr.cell? ⟨w.heap.size, 7, none⟩ = some (.slice aa al.length ca) := HR.out.2.2.2.1 7 _ rfl
      by_cases gj : j < ks.length
      · have gj' : (j : Int) < (ks.length : Int) := by omega
        obtain ⟨k9, nm9, f9, u9, ap9, np9, cp9, ak9, nk9, ck9, ab9, nb9, cb9, aa9, na9, ca9, hE, hcs⟩ := HO.out.2.2.1.cells j gj
        obtain ⟨g1, o1, ea1, k1, m1', hgb, ht1⟩ := (HO.out.2.1.apart HR.out.2.1).at (by omega)
        subst ea1
        have HP := Hd (fun i v h => ht1 _ _ (hcs i v h))
        have HT := Hd (show firstF (sdE cl sc) (ks.take (j + 1)) = (firstF (sdE cl sc) (ks.take j)).or (sdE cl sc ks[j]) by rw [List.take_succ_eq_append_getElem gj, firstF_snoc])
        have HXp := Hd (hP ks[j] b ((st.or (hasF cl nm)).or (firstF (sdE cl sc) (ks.take j))) cl ac cc sc ai ci wr k9 nm9 f9 u9 ap9 np9 cp9 ak9 nk9 ck9 ab9 nb9 cb9 aa9 na9 ca9 (hN.sk _ (List.getElem_mem gj)) (hN.wk _ (List.getElem_mem gj)) (by have := sumN_mem wtE (List.getElem_mem gj); omega) HR.out.1 (HO.out.1.apart HR.out.2.1) HR.out.2.2.1 (hE.apart HR.out.2.1))
        clear ht1 hcs hE
        generalize ks[j] = tk at *
        have p0 : wr.cell? ⟨g1, o1 + j * 8, none⟩ = some (.int .i64 k9) := HP.out 0 _ rfl
        have p1 : wr.cell? ⟨g1, o1 + j * 8 + 1, none⟩ = some (.string (tx nm9)) := by rw [Nat.add_assoc]; exact HP.out 1 _ rfl
        have p2 : wr.cell? ⟨g1, o1 + j * 8 + 2, none⟩ = some (.bool f9) := by rw [Nat.add_assoc]; exact HP.out 2 _ rfl
        have p3 : wr.cell? ⟨g1, o1 + j * 8 + 3, none⟩ = some (.int .u64 u9) := by rw [Nat.add_assoc]; exact HP.out 3 _ rfl
        have p4 : wr.cell? ⟨g1, o1 + j * 8 + 4, none⟩ = some (.slice ap9 np9 cp9) := by rw [Nat.add_assoc]; exact HP.out 4 _ rfl
        have p5 : wr.cell? ⟨g1, o1 + j * 8 + 5, none⟩ = some (.slice ak9 nk9 ck9) := by rw [Nat.add_assoc]; exact HP.out 5 _ rfl
        have p6 : wr.cell? ⟨g1, o1 + j * 8 + 6, none⟩ = some (.slice ab9 nb9 cb9) := by rw [Nat.add_assoc]; exact HP.out 6 _ rfl
        have p7 : wr.cell? ⟨g1, o1 + j * 8 + 7, none⟩ = some (.slice aa9 na9 ca9) := by rw [Nat.add_assoc]; exact HP.out 7 _ rfl
        have ej : IntKind.i64.wrap ((j : Int) + 1) = (j : Int) + 1 := by rw [IntKind.wrap_i64]; omega
        have b0 : (0 : Int) ≤ (j : Int) := by omega
        go_wp2_with fail
        refine HXp.out.mono ?_
        rintro e w6 ⟨rfl, hs6, hg6⟩
        have H6 := Hd (Ai hs6 hg6)
        clear hs6 hg6 HXp p0 p1 p2 p3 p4 p5 p6 p7 x5 x7
        go_wp2_with fail
        refine ⟨⟨j + 1, by omega, by go_num, ?_, ?_⟩, by simp [RowKit.intOf]; omega⟩
        · rw [HT.out]
          have h := H6.out.1
          rwa [or_assoc_f] at h
        · exact Gt HG1.out H6.out.2
      · obtain rfl : j = ks.length := by omega
        have hs2 := HR.out.1
        rw [List.take_length] at hs2
        have HA := Hd (salts_any n hP b ((st.or (hasF cl nm)).or (firstF (sdE cl sc) ks)) cl ac cc sc ai ci al hN.sa hN.wa (by omega) aa ca xa wr hs2 (HO.out.1.apart HR.out.2.1) HR.out.2.2.1 (HO.out.2.2.2.1.apart HR.out.2.1) (HO.out.2.2.2.2.move fun g hg lt => ⟨hg, HR.out.2.1.block g lt (by simpa using hg)⟩))
        clear hs2
        go_wp2_with fail
        refine HA.out.mono ?_
        rintro e w6 ⟨rfl, hs6, hg6⟩
        have H6 := Hd (Ai hs6 (Gt HR.out.2.1 hg6))
        clear hs6 hg6 HA x5 x7
        go_wp2_with fail
        go_end0
        refine ⟨rfl, ?_, H6.out.2⟩
        rw [HSD.out, ← or_assoc_f, ← or_assoc_f]
        have h := H6.out.1
        rw [← sdEs_first] at h
        exact h
  by_cases g6 : k = 6
  · subst g6
    have HSD := Hd (show sdE cl sc (.mk 6 nm f u ps ks bl al) = (twF (bNames bl)).or ((sdBs cl (sc ++ bNames bl) bl).or ((sdEs cl (sc ++ bNames bl) ks).or (sdAs cl (sc ++ bNames bl) al))) by unfold sdE; rw [if_neg (by decide), if_neg (by decide), if_pos rfl])
    have f1 : ((6 : Int) == 1) = false := rfl
    have f2 : ((6 : Int) == 2) = false := rfl
    have f6 : ((6 : Int) == 6) = true := rfl
    have f8 : ((6 : Int) == 8) = false := rfl
    have hlb := sumN_len nB (fun b => by unfold nB; omega) bl
    have HNL := Hd (bNames_len bl)
    go_enter Try.func38, Try.ntmps38
    go_upto_region 1 with fail
    generalize (w.alloc (.cells #[.int .i64 6, .string (tx nm), .bool f, .int .u64 u, .slice ap ps.length cp, .slice ak ks.length ck, .slice ab bl.length cb, .slice aa al.length ca] 34)) = W at *
    have c6 : W.cell? ⟨w.heap.size, 6, none⟩ = some (.slice ab bl.length cb) := HX.out.2.1 6 _ rfl
    have c0 : W.cell? ⟨w.heap.size, 0, none⟩ = some (.int .i64 6) := HX.out.2.1 0 _ rfl
    have HI := Hd (snames_any bl ab cb (Apart b) (Apart b) xb W (by omega) (HO2.out.2.1.apartB HX.out.1) (HO2.out.2.2.move fun g hg lt => ⟨hg, HX.out.1.block g lt⟩))
    go_wp2_with fail
    refine HI.out.mono ?_
    rintro e w2 ⟨⟨v, rfl, ho⟩, hb2⟩
    rw [← HNL.out] at ho
    obtain ⟨av, cv, rfl, -⟩ := own_shape ho
    have H2 := Hd (Ai (HS.out.1.later (onB' HX.out.1 hb2)) (Ai (onB' HX.out.1 hb2) (Ai (HX.out.2.below hb2) (RowAt.of (K := Apart b) ho (fun g hg => by show g ≠ b; have h1 := HLT.out; have h2 := HX.out.1.size; omega)))))
    have c6' := later' hb2 c6
    clear hb2 HI c0 c6 ho
    have HTw := Hd (stwice_any b st (.slice ac cl.length cc) (bNames bl) av cv (Apart b) (fun _ h => h) w2 H2.out.1 H2.out.2.2.2)
    go_wp2_with fail
    refine HTw.out.mono ?_
    rintro e w3 ⟨rfl, hs3, hg3⟩
    have hgw := Gt (grown_of (b := b) H2.out.2.1) hg3
    have H3 := Hd (Ai hs3 (Ai hgw (Ai (HS.out.2.apart hgw) (Ai (H2.out.2.2.1.grown hg3 HNE.out) (H2.out.2.2.2.apart hg3)))))
    have c6'' := hg3.cell c6' (by simpa using HNE.out)
    clear hs3 hg3 hgw HTw c6'
    have hwt2 : sc.length + (bNames bl).length ≤ 100000 := by rw [HNL.out]; omega
    obtain ⟨sc2, hsc2⟩ : ∃ sc2, sc2 = sc ++ bNames bl := ⟨_, rfl⟩
    have hwt3 : sc2.length = sc.length + bl.length := by rw [hsc2, List.length_append, HNL.out]
    have hwt4 : sc2.length + (ps.length + sumN wtE ks + sumN nB bl + sumN nA al) ≤ 100000 := by omega
    clear hwt3
    have HJ := Hd (join_here b sc (bNames bl) ai ci av cv hwt2 w3 w3 Br H3.out.2.2.1 (Apart b) H3.out.2.2.2.2)
    rw [← hsc2] at HJ HSD
    clear hsc2 hwt2
    go_wp2_with fail
    refine HJ.out.mono ?_
    rintro e w4 ⟨⟨a2, c2, rfl, ho⟩, hb4⟩
    have hgw := Gt H3.out.2.1 (grown_of (b := b) hb4)
    have H4 := Hd (Ai (H3.out.1.later hb4) (Ai hgw (Ai (ho H3.out.1.lt) (H3.out.2.2.2.1.below hb4))))
    have c6 := later' hb4 c6''
    clear hgw hb4 ho HJ c6''
    have HBs := Hd (sbinds_any n hP b (st.or (twF (bNames bl))) cl ac cc sc2 a2 c2 bl hN.sb hN.wb (by omega) ab cb xb w4 H4.out.1 (HO.out.1.apart H4.out.2.1) H4.out.2.2.1 (HO2.out.2.1.apart H4.out.2.1) (HO2.out.2.2.move fun g hg lt => ⟨hg, H4.out.2.1.block g lt (by simpa using hg)⟩))
    go_wp2_with fail
    refine HBs.out.mono ?_
    rintro e w5 ⟨rfl, hs5, hg5⟩
    have HB := Hd (Ai hs5 (Ai (Gt H4.out.2.1 hg5) (Ai (H4.out.2.2.1.apart hg5) (H4.out.2.2.2.grown hg5 HNE.out))))
    clear hs5 hg5 HBs c6
    go_wp2_with fail
    clear f1 f2 f6 f8
    go_loopw [7] (fun s wr => ∃ j : Nat, j ≤ ks.length ∧ s = .int .i64 j ∧ SAt wr b (((st.or (twF (bNames bl))).or (sdBs cl sc2 bl)).or (firstF (sdE cl sc2) (ks.take j))) (.slice ac cl.length cc) ∧ w5.grownBy wr (some b)) (fun s _ => ks.length - (RowKit.intOf s).toNat)
    case atStart => exact ⟨0, Nat.zero_le _, rfl, by rw [List.take_zero, show firstF (sdE cl sc2) [] = none from rfl, or_nil_l]; exact HB.out.1, grown_of Br⟩
    case round =>
      obtain ⟨j, hj, rfl, hs1, hg1⟩ := hrel
      have HR := Hd (Ai hs1 (Ai (Gt HB.out.2.1 hg1) (Ai (HB.out.2.2.1.apart hg1) (HB.out.2.2.2.grown hg1 HNE.out))))
      have HG1 := Hd hg1
      clear hs1 hg1
      have x5 : wr.cell? ⟨w.heap.size, 5, none⟩ = some (.slice ak ks.length ck) := HR.out.2.2.2.1 5 _ rfl
      have x7 : wr.cell? ⟨w.heap.size, 7, none⟩ = some (.slice aa al.length ca) := HR.out.2.2.2.1 7 _ rfl
      by_cases gj : j < ks.length
      · have gj' : (j : Int) < (ks.length : Int) := by omega
        obtain ⟨k9, nm9, f9, u9, ap9, np9, cp9, ak9, nk9, ck9, ab9, nb9, cb9, aa9, na9, ca9, hE, hcs⟩ := HO.out.2.2.1.cells j gj
        obtain ⟨g1, o1, ea1, k1, m1', hgb, ht1⟩ := (HO.out.2.1.apart HR.out.2.1).at (by omega)
        subst ea1
        have HP := Hd (fun i v h => ht1 _ _ (hcs i v h))
        have HT := Hd (show firstF (sdE cl sc2) (ks.take (j + 1)) = (firstF (sdE cl sc2) (ks.take j)).or (sdE cl sc2 ks[j]) by rw [List.take_succ_eq_append_getElem gj, firstF_snoc])
        have HXp := Hd (hP ks[j] b (((st.or (twF (bNames bl))).or (sdBs cl sc2 bl)).or (firstF (sdE cl sc2) (ks.take j))) cl ac cc sc2 a2 c2 wr k9 nm9 f9 u9 ap9 np9 cp9 ak9 nk9 ck9 ab9 nb9 cb9 aa9 na9 ca9 (hN.sk _ (List.getElem_mem gj)) (hN.wk _ (List.getElem_mem gj)) (by have := sumN_mem wtE (List.getElem_mem gj); omega) HR.out.1 (HO.out.1.apart HR.out.2.1) HR.out.2.2.1 (hE.apart HR.out.2.1))
        clear ht1 hcs hE
        generalize ks[j] = tk at *
        have p0 : wr.cell? ⟨g1, o1 + j * 8, none⟩ = some (.int .i64 k9) := HP.out 0 _ rfl
        have p1 : wr.cell? ⟨g1, o1 + j * 8 + 1, none⟩ = some (.string (tx nm9)) := by rw [Nat.add_assoc]; exact HP.out 1 _ rfl
        have p2 : wr.cell? ⟨g1, o1 + j * 8 + 2, none⟩ = some (.bool f9) := by rw [Nat.add_assoc]; exact HP.out 2 _ rfl
        have p3 : wr.cell? ⟨g1, o1 + j * 8 + 3, none⟩ = some (.int .u64 u9) := by rw [Nat.add_assoc]; exact HP.out 3 _ rfl
        have p4 : wr.cell? ⟨g1, o1 + j * 8 + 4, none⟩ = some (.slice ap9 np9 cp9) := by rw [Nat.add_assoc]; exact HP.out 4 _ rfl
        have p5 : wr.cell? ⟨g1, o1 + j * 8 + 5, none⟩ = some (.slice ak9 nk9 ck9) := by rw [Nat.add_assoc]; exact HP.out 5 _ rfl
        have p6 : wr.cell? ⟨g1, o1 + j * 8 + 6, none⟩ = some (.slice ab9 nb9 cb9) := by rw [Nat.add_assoc]; exact HP.out 6 _ rfl
        have p7 : wr.cell? ⟨g1, o1 + j * 8 + 7, none⟩ = some (.slice aa9 na9 ca9) := by rw [Nat.add_assoc]; exact HP.out 7 _ rfl
        have ej : IntKind.i64.wrap ((j : Int) + 1) = (j : Int) + 1 := by rw [IntKind.wrap_i64]; omega
        have b0 : (0 : Int) ≤ (j : Int) := by omega
        go_wp2_with fail
        refine HXp.out.mono ?_
        rintro e w6 ⟨rfl, hs6, hg6⟩
        have H6 := Hd (Ai hs6 hg6)
        clear hs6 hg6 HXp p0 p1 p2 p3 p4 p5 p6 p7 x5 x7
        go_wp2_with fail
        refine ⟨⟨j + 1, by omega, by go_num, ?_, ?_⟩, by simp [RowKit.intOf]; omega⟩
        · rw [HT.out]
          have h := H6.out.1
          rwa [or_assoc_f] at h
        · exact Gt HG1.out H6.out.2
      · obtain rfl : j = ks.length := by omega
        have hs2 := HR.out.1
        rw [List.take_length] at hs2
        have HA := Hd (salts_any n hP b (((st.or (twF (bNames bl))).or (sdBs cl sc2 bl)).or (firstF (sdE cl sc2) ks)) cl ac cc sc2 a2 c2 al hN.sa hN.wa (by omega) aa ca xa wr hs2 (HO.out.1.apart HR.out.2.1) HR.out.2.2.1 (HO.out.2.2.2.1.apart HR.out.2.1) (HO.out.2.2.2.2.move fun g hg lt => ⟨hg, HR.out.2.1.block g lt (by simpa using hg)⟩))
        clear hs2
        go_wp2_with fail
        refine HA.out.mono ?_
        rintro e w6 ⟨rfl, hs6, hg6⟩
        have H6 := Hd (Ai hs6 (Gt HR.out.2.1 hg6))
        clear hs6 hg6 HA x5 x7
        go_wp2_with fail
        go_end0
        refine ⟨rfl, ?_, H6.out.2⟩
        rw [HSD.out, ← or_assoc_f, ← or_assoc_f, ← or_assoc_f]
        have h := H6.out.1
        rw [← sdEs_first] at h
        exact h
  by_cases g8 : k = 8
  · subst g8
    have HSD := Hd (show sdE cl sc (.mk 8 nm f u ps ks bl al) = (twF ps).or ((sdEs cl (sc ++ ps) ks).or (sdAs cl (sc ++ ps) al)) by unfold sdE; rw [if_neg (by decide), if_neg (by decide), if_neg (by decide), if_pos rfl])
    have f1 : ((8 : Int) == 1) = false := rfl
    have f2 : ((8 : Int) == 2) = false := rfl
    have f6 : ((8 : Int) == 6) = false := rfl
    have f8 : ((8 : Int) == 8) = true := rfl
    go_enter Try.func38, Try.ntmps38
    go_upto_region 1 with fail
    generalize (w.alloc (.cells #[.int .i64 8, .string (tx nm), .bool f, .int .u64 u, .slice ap ps.length cp, .slice ak ks.length ck, .slice ab bl.length cb, .slice aa al.length ca] 34)) = W at *
    have c4 : W.cell? ⟨w.heap.size, 4, none⟩ = some (.slice ap ps.length cp) := HX.out.2.1 4 _ rfl
    have c0 : W.cell? ⟨w.heap.size, 0, none⟩ = some (.int .i64 8) := HX.out.2.1 0 _ rfl
    have HTw := Hd (stwice_any b st (.slice ac cl.length cc) ps ap cp (Apart b) (fun _ h => h) W (HS.out.1.later HX.out.1) (HO2.out.1.apartB HX.out.1))
    go_wp2_with fail
    refine HTw.out.mono ?_
    rintro e w3 ⟨rfl, hs3, hg3⟩
    have hgw := Gt (grown_of (b := b) HX.out.1) hg3
    have H3 := Hd (Ai hs3 (Ai hgw (Ai (HS.out.2.apart hgw) (Ai (HX.out.2.grown hg3 HNE.out) (HO2.out.1.apart hgw)))))
    have c4' := hg3.cell c4 (by simpa using HNE.out)
    clear hs3 hg3 hgw HTw c4 c0
    have hwt2 : sc.length + ps.length ≤ 100000 := by omega
    obtain ⟨sc2, hsc2⟩ : ∃ sc2, sc2 = sc ++ ps := ⟨_, rfl⟩
    have hwt3 : sc2.length = sc.length + ps.length := by rw [hsc2, List.length_append]
    have hwt4 : sc2.length + (sumN wtE ks + sumN nB bl + sumN nA al) ≤ 100000 := by omega
    clear hwt3
    have HJ := Hd (join_here b sc ps ai ci ap cp hwt2 w3 w3 Br H3.out.2.2.1 (Apart b) H3.out.2.2.2.2)
    rw [← hsc2] at HJ HSD
    clear hsc2 hwt2
    go_wp2_with fail
    refine HJ.out.mono ?_
    rintro e w4 ⟨⟨a2, c2, rfl, ho⟩, hb4⟩
    have hgw := Gt H3.out.2.1 (grown_of (b := b) hb4)
    have HB := Hd (Ai (H3.out.1.later hb4) (Ai hgw (Ai (ho H3.out.1.lt) (H3.out.2.2.2.1.below hb4))))
    clear hgw hb4 ho HJ c4'
    go_wp2_with fail
    clear f1 f2 f6 f8
    go_loopw [7] (fun s wr => ∃ j : Nat, j ≤ ks.length ∧ s = .int .i64 j ∧ SAt wr b ((st.or (twF ps)).or (firstF (sdE cl sc2) (ks.take j))) (.slice ac cl.length cc) ∧ w4.grownBy wr (some b)) (fun s _ => ks.length - (RowKit.intOf s).toNat)
    case atStart => exact ⟨0, Nat.zero_le _, rfl, by rw [List.take_zero, show firstF (sdE cl sc2) [] = none from rfl, or_nil_l]; exact HB.out.1, grown_of Br⟩
    case round =>
      obtain ⟨j, hj, rfl, hs1, hg1⟩ := hrel
      have HR := Hd (Ai hs1 (Ai (Gt HB.out.2.1 hg1) (Ai (HB.out.2.2.1.apart hg1) (HB.out.2.2.2.grown hg1 HNE.out))))
      have HG1 := Hd hg1
      clear hs1 hg1
      have x5 : wr.cell? ⟨w.heap.size, 5, none⟩ = some (.slice ak ks.length ck) := HR.out.2.2.2.1 5 _ rfl
      have x7 : wr.cell? ⟨w.heap.size, 7, none⟩ = some (.slice aa al.length ca) := HR.out.2.2.2.1 7 _ rfl
      by_cases gj : j < ks.length
      · have gj' : (j : Int) < (ks.length : Int) := by omega
        obtain ⟨k9, nm9, f9, u9, ap9, np9, cp9, ak9, nk9, ck9, ab9, nb9, cb9, aa9, na9, ca9, hE, hcs⟩ := HO.out.2.2.1.cells j gj
        obtain ⟨g1, o1, ea1, k1, m1', hgb, ht1⟩ := (HO.out.2.1.apart HR.out.2.1).at (by omega)
        subst ea1
        have HP := Hd (fun i v h => ht1 _ _ (hcs i v h))
        have HT := Hd (show firstF (sdE cl sc2) (ks.take (j + 1)) = (firstF (sdE cl sc2) (ks.take j)).or (sdE cl sc2 ks[j]) by rw [List.take_succ_eq_append_getElem gj, firstF_snoc])
        have HXp := Hd (hP ks[j] b ((st.or (twF ps)).or (firstF (sdE cl sc2) (ks.take j))) cl ac cc sc2 a2 c2 wr k9 nm9 f9 u9 ap9 np9 cp9 ak9 nk9 ck9 ab9 nb9 cb9 aa9 na9 ca9 (hN.sk _ (List.getElem_mem gj)) (hN.wk _ (List.getElem_mem gj)) (by have := sumN_mem wtE (List.getElem_mem gj); omega) HR.out.1 (HO.out.1.apart HR.out.2.1) HR.out.2.2.1 (hE.apart HR.out.2.1))
        clear ht1 hcs hE
        generalize ks[j] = tk at *
        have p0 : wr.cell? ⟨g1, o1 + j * 8, none⟩ = some (.int .i64 k9) := HP.out 0 _ rfl
        have p1 : wr.cell? ⟨g1, o1 + j * 8 + 1, none⟩ = some (.string (tx nm9)) := by rw [Nat.add_assoc]; exact HP.out 1 _ rfl
        have p2 : wr.cell? ⟨g1, o1 + j * 8 + 2, none⟩ = some (.bool f9) := by rw [Nat.add_assoc]; exact HP.out 2 _ rfl
        have p3 : wr.cell? ⟨g1, o1 + j * 8 + 3, none⟩ = some (.int .u64 u9) := by rw [Nat.add_assoc]; exact HP.out 3 _ rfl
        have p4 : wr.cell? ⟨g1, o1 + j * 8 + 4, none⟩ = some (.slice ap9 np9 cp9) := by rw [Nat.add_assoc]; exact HP.out 4 _ rfl
        have p5 : wr.cell? ⟨g1, o1 + j * 8 + 5, none⟩ = some (.slice ak9 nk9 ck9) := by rw [Nat.add_assoc]; exact HP.out 5 _ rfl
        have p6 : wr.cell? ⟨g1, o1 + j * 8 + 6, none⟩ = some (.slice ab9 nb9 cb9) := by rw [Nat.add_assoc]; exact HP.out 6 _ rfl
        have p7 : wr.cell? ⟨g1, o1 + j * 8 + 7, none⟩ = some (.slice aa9 na9 ca9) := by rw [Nat.add_assoc]; exact HP.out 7 _ rfl
        have ej : IntKind.i64.wrap ((j : Int) + 1) = (j : Int) + 1 := by rw [IntKind.wrap_i64]; omega
        have b0 : (0 : Int) ≤ (j : Int) := by omega
        go_wp2_with fail
        refine HXp.out.mono ?_
        rintro e w6 ⟨rfl, hs6, hg6⟩
        have H6 := Hd (Ai hs6 hg6)
        clear hs6 hg6 HXp p0 p1 p2 p3 p4 p5 p6 p7 x5 x7
        go_wp2_with fail
        refine ⟨⟨j + 1, by omega, by go_num, ?_, ?_⟩, by simp [RowKit.intOf]; omega⟩
        · rw [HT.out]
          have h := H6.out.1
          rwa [or_assoc_f] at h
        · exact Gt HG1.out H6.out.2
      · obtain rfl : j = ks.length := by omega
        have hs2 := HR.out.1
        rw [List.take_length] at hs2
        have HA := Hd (salts_any n hP b ((st.or (twF ps)).or (firstF (sdE cl sc2) ks)) cl ac cc sc2 a2 c2 al hN.sa hN.wa (by omega) aa ca xa wr hs2 (HO.out.1.apart HR.out.2.1) HR.out.2.2.1 (HO.out.2.2.2.1.apart HR.out.2.1) (HO.out.2.2.2.2.move fun g hg lt => ⟨hg, HR.out.2.1.block g lt (by simpa using hg)⟩))
        clear hs2
        go_wp2_with fail
        refine HA.out.mono ?_
        rintro e w6 ⟨rfl, hs6, hg6⟩
        have H6 := Hd (Ai hs6 (Gt HR.out.2.1 hg6))
        clear hs6 hg6 HA x5 x7
        go_wp2_with fail
        go_end0
        refine ⟨rfl, ?_, H6.out.2⟩
        rw [HSD.out, ← or_assoc_f, ← or_assoc_f]
        have h := H6.out.1
        rw [← sdEs_first] at h
        exact h
  · have HSD := Hd (show sdE cl sc (.mk k nm f u ps ks bl al) = (sdEs cl sc ks).or (sdAs cl sc al) by unfold sdE; rw [if_neg g1, if_neg g2, if_neg g6, if_neg g8])
    have f1 : (k == 1) = false := by simpa using g1
    have f2 : (k == 2) = false := by simpa using g2
    have f6 : (k == 6) = false := by simpa using g6
    have f8 : (k == 8) = false := by simpa using g8
    have HB := Hd (Ai (HS.out.1.later HX.out.1) (Ai (grown_of (b := b) HX.out.1) (Ai (HS.out.2.apartB HX.out.1) HX.out.2)))
    go_enter Try.func38, Try.ntmps38
    go_upto_region 1 with fail
    generalize (w.alloc (.cells #[.int .i64 k, .string (tx nm), .bool f, .int .u64 u, .slice ap ps.length cp, .slice ak ks.length ck, .slice ab bl.length cb, .slice aa al.length ca] 34)) = W at *
    have c0 : W.cell? ⟨w.heap.size, 0, none⟩ = some (.int .i64 k) := HX.out.2.1 0 _ rfl
    go_wp2_with fail
    clear c0
    clear f1 f2 f6 f8
    go_loopw [7] (fun s wr => ∃ j : Nat, j ≤ ks.length ∧ s = .int .i64 j ∧ SAt wr b ((st).or (firstF (sdE cl sc) (ks.take j))) (.slice ac cl.length cc) ∧ W.grownBy wr (some b)) (fun s _ => ks.length - (RowKit.intOf s).toNat)
    case atStart => exact ⟨0, Nat.zero_le _, rfl, by rw [List.take_zero, show firstF (sdE cl sc) [] = none from rfl, or_nil_l]; exact HB.out.1, grown_of Br⟩
    case round =>
      obtain ⟨j, hj, rfl, hs1, hg1⟩ := hrel
      have HR := Hd (Ai hs1 (Ai (Gt HB.out.2.1 hg1) (Ai (HB.out.2.2.1.apart hg1) (HB.out.2.2.2.grown hg1 HNE.out))))
      have HG1 := Hd hg1
      clear hs1 hg1
      have x5 : wr.cell? ⟨w.heap.size, 5, none⟩ = some (.slice ak ks.length ck) := HR.out.2.2.2.1 5 _ rfl
      have x7 : wr.cell? ⟨w.heap.size, 7, none⟩ = some (.slice aa al.length ca) := HR.out.2.2.2.1 7 _ rfl
      by_cases gj : j < ks.length
      · have gj' : (j : Int) < (ks.length : Int) := by omega
        obtain ⟨k9, nm9, f9, u9, ap9, np9, cp9, ak9, nk9, ck9, ab9, nb9, cb9, aa9, na9, ca9, hE, hcs⟩ := HO.out.2.2.1.cells j gj
        obtain ⟨g1, o1, ea1, k1, m1', hgb, ht1⟩ := (HO.out.2.1.apart HR.out.2.1).at (by omega)
        subst ea1
        have HP := Hd (fun i v h => ht1 _ _ (hcs i v h))
        have HT := Hd (show firstF (sdE cl sc) (ks.take (j + 1)) = (firstF (sdE cl sc) (ks.take j)).or (sdE cl sc ks[j]) by rw [List.take_succ_eq_append_getElem gj, firstF_snoc])
        have HXp := Hd (hP ks[j] b ((st).or (firstF (sdE cl sc) (ks.take j))) cl ac cc sc ai ci wr k9 nm9 f9 u9 ap9 np9 cp9 ak9 nk9 ck9 ab9 nb9 cb9 aa9 na9 ca9 (hN.sk _ (List.getElem_mem gj)) (hN.wk _ (List.getElem_mem gj)) (by have := sumN_mem wtE (List.getElem_mem gj); omega) HR.out.1 (HO.out.1.apart HR.out.2.1) HR.out.2.2.1 (hE.apart HR.out.2.1))
        clear ht1 hcs hE
        generalize ks[j] = tk at *
        have p0 : wr.cell? ⟨g1, o1 + j * 8, none⟩ = some (.int .i64 k9) := HP.out 0 _ rfl
        have p1 : wr.cell? ⟨g1, o1 + j * 8 + 1, none⟩ = some (.string (tx nm9)) := by rw [Nat.add_assoc]; exact HP.out 1 _ rfl
        have p2 : wr.cell? ⟨g1, o1 + j * 8 + 2, none⟩ = some (.bool f9) := by rw [Nat.add_assoc]; exact HP.out 2 _ rfl
        have p3 : wr.cell? ⟨g1, o1 + j * 8 + 3, none⟩ = some (.int .u64 u9) := by rw [Nat.add_assoc]; exact HP.out 3 _ rfl
        have p4 : wr.cell? ⟨g1, o1 + j * 8 + 4, none⟩ = some (.slice ap9 np9 cp9) := by rw [Nat.add_assoc]; exact HP.out 4 _ rfl
        have p5 : wr.cell? ⟨g1, o1 + j * 8 + 5, none⟩ = some (.slice ak9 nk9 ck9) := by rw [Nat.add_assoc]; exact HP.out 5 _ rfl
        have p6 : wr.cell? ⟨g1, o1 + j * 8 + 6, none⟩ = some (.slice ab9 nb9 cb9) := by rw [Nat.add_assoc]; exact HP.out 6 _ rfl
        have p7 : wr.cell? ⟨g1, o1 + j * 8 + 7, none⟩ = some (.slice aa9 na9 ca9) := by rw [Nat.add_assoc]; exact HP.out 7 _ rfl
        have ej : IntKind.i64.wrap ((j : Int) + 1) = (j : Int) + 1 := by rw [IntKind.wrap_i64]; omega
        have b0 : (0 : Int) ≤ (j : Int) := by omega
        go_wp2_with fail
        refine HXp.out.mono ?_
        rintro e w6 ⟨rfl, hs6, hg6⟩
        have H6 := Hd (Ai hs6 hg6)
        clear hs6 hg6 HXp p0 p1 p2 p3 p4 p5 p6 p7 x5 x7
        go_wp2_with fail
        refine ⟨⟨j + 1, by omega, by go_num, ?_, ?_⟩, by simp [RowKit.intOf]; omega⟩
        · rw [HT.out]
          have h := H6.out.1
          rwa [or_assoc_f] at h
        · exact Gt HG1.out H6.out.2
      · obtain rfl : j = ks.length := by omega
        have hs2 := HR.out.1
        rw [List.take_length] at hs2
        have HA := Hd (salts_any n hP b ((st).or (firstF (sdE cl sc) ks)) cl ac cc sc ai ci al hN.sa hN.wa (by omega) aa ca xa wr hs2 (HO.out.1.apart HR.out.2.1) HR.out.2.2.1 (HO.out.2.2.2.1.apart HR.out.2.1) (HO.out.2.2.2.2.move fun g hg lt => ⟨hg, HR.out.2.1.block g lt (by simpa using hg)⟩))
        clear hs2
        go_wp2_with fail
        refine HA.out.mono ?_
        rintro e w6 ⟨rfl, hs6, hg6⟩
        have H6 := Hd (Ai hs6 (Gt HR.out.2.1 hg6))
        clear hs6 hg6 HA x5 x7
        go_wp2_with fail
        go_end0
        refine ⟨rfl, ?_, H6.out.2⟩
        rw [HSD.out, ← or_assoc_f]
        have h := H6.out.1
        rw [← sdEs_first] at h
        exact h
theorem doc_all : ∀ n, DocC n
  | 0 => by
    intro x b st cl ac cc sc ai ci W k nm f u ap np cp ak nk ck ab nb cb aa na ca hz
    obtain ⟨k, n, f, x, ps, ks, bs, al⟩ := x
    simp only [Ex.mk.sizeOf_spec] at hz
    omega
  | n + 1 => doc_step n (doc_all n)
end Go.Proofs.Ytdjcdecbmeickaa
namespace Go.Proofs.Ytdjcdecbmeickaa
set_option maxHeartbeats 64000000
set_option maxRecDepth 100000
open Go.RowKit Go.Lib
theorem dcheck_any (m : Md) (hm : MdOk m) (ac : Option Addr) (cc : Nat) (ab : Option Addr) (cb : Nat) (K : Nat → Prop) (w : World) (h : ModAt w K m ac cc ab cb) :
    Calls Try.prog 16 #[.agg #[.slice ac m.1.length cc, .slice ab m.2.length cb]] w fun e w' => e = .returned (.tuple #[.int .i64 (stN (sdM m)).1, .string (tx (stN (sdM m)).2)]) ∧ Below w.heap.size w w' := by
  have hx := (Below.refl w.heap.size w).alloc Nr (.cells #[.slice ac m.1.length cc, .slice ab m.2.length cb] 41)
  have HX := Hd (Ai hx (BoxW.alloc w #[.slice ac m.1.length cc, .slice ab m.2.length cb] 41))
  have HO := Hd h
  have hwt := hm.wt
  have HLB := Hd (bNames_len m.2)
  obtain ⟨i0, hi0, hz0, hzs, hzb⟩ := info_parts Try.info_text
  clear h hx
  go_enter Try.func16, Try.ntmps16
  go_upto_region 1 with fail
  generalize (w.alloc (.cells #[.slice ac m.1.length cc, .slice ab m.2.length cb] 41)) = W at *
  have d0 : W.cell? ⟨w.heap.size, 0, none⟩ = some (.slice ac m.1.length cc) := HX.out.2.1 0 _ rfl
  have d1 : W.cell? ⟨w.heap.size, 1, none⟩ = some (.slice ab m.2.length cb) := HX.out.2.1 1 _ rfl
  have hq0 : w.heap.size < W.heap.size := Bl d0
  have hbm : Below W.heap.size W (W.alloc (.cells #[.int .i64 0, .string ⟨#[]⟩, .slice none 0 0] 63)) := Br.alloc Nr _
  have HM1 := Hd (Ai (onB' HX.out.1 hbm) (Ai (BoxW.alloc W #[.int .i64 0, .string ⟨#[]⟩, .slice none 0 0] 63) (HX.out.2.below hbm)))
  have HC := Hd (scons_any m.1 (.slice ac m.1.length cc) (.slice ab m.2.length cb) K (W.alloc (.cells #[.int .i64 0, .string ⟨#[]⟩, .slice none 0 0] 63)) (by omega) (HO.out.dr.move fun g hk lt => ⟨hk, (onB' HX.out.1 hbm).block g lt⟩))
  clear hbm
  go_wp2_with fail
  refine HC.out.mono ?_
  rintro e w2 ⟨⟨v, rfl, ho⟩, hb2⟩
  obtain ⟨ds, hds⟩ : ∃ ds : List (Nm × Int), ds = four ++ m.1 := ⟨_, rfl⟩
  have hdl : 4 + m.1.length = ds.length := by rw [hds]; simp [four]; omega
  rw [hdl, ← hds] at ho
  have HDS := Hd (Ai hds hdl)
  obtain ⟨a1, c1, rfl, -⟩ := own_shape ho
  have hzW : (W.alloc (.cells #[.int .i64 0, .string ⟨#[]⟩, .slice none 0 0] 63)).heap.size = W.heap.size + 1 := by simp
  have hne1 : ∀ g, (W.alloc (.cells #[.int .i64 0, .string ⟨#[]⟩, .slice none 0 0] 63)).heap.size ≤ g → g ≠ W.heap.size := fun g hg => by rw [hzW] at hg; omega
  have HB := Hd (show BoxW w2 W.heap.size [.int .i64 0, .string ⟨#[]⟩, .slice none 0 0] from HM1.out.2.1.below hb2)
  have hblt : W.heap.size < w2.heap.size := HB.out.lt
  have HB2 := Hd (Ai (onB' HM1.out.1 hb2) (HM1.out.2.2.below hb2))
  have hdm : ds.length ≤ 100000 := by omega
  have HR1 := Hd (show RowAt w2 (Apart W.heap.size) 66 2 (.slice a1 ds.length c1) ds.length (declV ds) from RowAt.of ho hne1)
  clear ho hds hdl hb2 HC HM1 hzW hne1
  go_wp2_with fail
  clear d0 d1
  go_loopw [6] (fun s wr => ∃ (j : Nat) (vv : Value), j ≤ ds.length ∧ s = .int .i64 j ∧ BoxW wr W.heap.size [.int .i64 0, .string ⟨#[]⟩, vv] ∧ wr.ownsRow w2.heap.size 9 1 vv j (namesV ((ds.take j).map (·.1))) ∧ w2.grownBy wr (some W.heap.size)) (fun s _ => ds.length - (RowKit.intOf s).toNat)
  case atStart => exact ⟨0, _, Nat.zero_le _, rfl, HB.out, World.ownsRow_nil _ _ _ _, grown_of Br⟩
  case round =>
    obtain ⟨j, vv, hj, rfl, hbx, hown, hg⟩ := hrel
    obtain ⟨av, cv, rfl, hlow⟩ := own_shape hown
    have HW := Hd (Ai hbx (Ai hown (Ai hg hlow)))
    clear hbx hown hg hlow
    have z2 := HW.out.1.2 2
    have x2 : wr.cell? ⟨W.heap.size, 2, none⟩ = some (.slice av j cv) := HW.out.1.1 2 _ rfl
    by_cases gj : j < ds.length
    · have gj' : (j : Int) < (ds.length : Int) := by omega
      obtain ⟨g1, o1, ea1, k1, m1', hgb, ht1⟩ := (HR1.out.apart HW.out.2.2.1).at (by omega)
      subst ea1
      obtain ⟨zz0, -⟩ := declV_here gj
      have p0 : wr.cell? ⟨g1, o1 + j * 2, none⟩ = some (.string (tx ds[j].1)) := ht1 _ _ zz0
      have HT := Hd (show namesV ((ds.take (j + 1)).map (·.1)) = namesV ((ds.take j).map (·.1)) ++ [.string (tx ds[j].1)] by rw [List.take_succ_eq_append_getElem gj]; simp only [namesV, List.map_append, List.map_cons, List.map_nil])
      clear ht1 zz0
      generalize ds[j].1 = nm at *
      have hsw : w2.heap.size ≤ wr.heap.size := HW.out.2.2.1.size
      have ej : IntKind.i64.wrap ((j : Int) + 1) = (j : Int) + 1 := by rw [IntKind.wrap_i64]; omega
      have b0 : (0 : Int) ≤ (j : Int) := by omega
      have one1 : ∀ u ∈ [Value.string (tx nm)], u.oneCell' = true := by intro u hu; simp at hu; rw [hu]; rfl
      have m9 : j + 1 ≤ maxLen := by unfold maxLen; omega
      have m8 : (j + 1) * 16 ≤ 140737488355328 := by omega
      have hne : some W.heap.size ≠ (Value.slice av j cv).ownBlock := fun e => by have := HW.out.2.2.2 _ e.symm; omega
      have hb7 : Below wr.heap.size wr ((wr.alloc (.cells #[.string (tx nm)] 9)).drew) := ((Below.refl wr.heap.size wr).alloc Nr _).drew
      have HB7 := Hd hb7
      have HO7 := Hd (own_below HW.out.2.1 hb7)
      have x7 := later' hb7 x2
      have z7 : ((wr.alloc (.cells #[.string (tx nm)] 9)).drew).frozen? ⟨W.heap.size, 2, none⟩ = false := (HW.out.1.below hb7).2 2
      have HBx7 := Hd (HW.out.1.below hb7)
      have hz7 : wr.heap.size < ((wr.alloc (.cells #[.string (tx nm)] 9)).drew).heap.size := by show wr.heap.size < (wr.alloc (.cells #[.string (tx nm)] 9)).heap.size; simp
      have hlt : W.heap.size < wr.heap.size := by omega
      clear hb7
      go_wp2_with fail
      go_region_law (refine step_append_lies _ rfl _ _ 22 rfl w2.heap.size 9 i0 (.string ⟨#[]⟩) 1 16 Try.underlying22 hi0 hz0 hzs hzb rfl (by decide) (.slice av j cv) j (namesV ((ds.take j).map (·.1))) rfl HO7.out ⟨wr.heap.size, 0, none⟩ 1 1 [.string (tx nm)] rfl rfl (World.news_of_block (heap_alloc_new _ _)) one1 (by decide) m9 m8 (by omega) _ rfl ?_; intro g9 cap9 w9 q1 q2 q3 q4; have x9 := q2.cell x7 (by simpa using hne); have z9 := (q2.frozen_far ⟨W.heap.size, 2, none⟩ (Bl x7) (by simpa using hne)).trans z7)
      all_goals go_wp2_with fail
      all_goals
        refine ⟨⟨j + 1, _, by omega, by go_num, BoxW.set (cs := [.int .i64 0, .string ⟨#[]⟩, .slice av j cv]) ⟨fun i v hi => q2.cell (HBx7.out.1 i v hi) (by simpa using hne), fun i => (q2.frozen_far ⟨W.heap.size, i, none⟩ (by show W.heap.size < _; omega) (by simpa using hne)).trans (HBx7.out.2 i)⟩ 2 (show 2 < 3 by decide) _, ?_, ?_⟩, by simp [RowKit.intOf]; omega⟩
        · rw [HT.out]
          refine own_o q1 (set_grown ..) (fun g hg e => ?_)
          have e1 : g = W.heap.size := Oi e
          have e2 : g9 = g := Oi hg
          rcases q3 with q3 | q3
          · have := HW.out.2.2.2 _ q3; omega
          · omega
        · have hg1 := HW.out.2.2.1
          have hb7 := HB7.out
          refine ⟨q2.os.trans (hb7.os.trans hg1.os), q2.tape.trans (hb7.tape.trans hg1.tape), q2.output.trans (hb7.output.trans hg1.output), Nt hg1.size (Nt hb7.size (Nt q2.size (set_grown ..).size)), fun k hk hne2 => ?_⟩
          exact ((set_grown ..).block k (by have := q2.size; omega) hne2).trans ((q2.block k (by omega) (fun e => by have := HW.out.2.2.2 _ e.symm; omega)).trans ((hb7.block k (by omega)).trans (hg1.block k hk hne2)))
    · obtain rfl : j = ds.length := by omega
      have hown := HW.out.2.1
      rw [List.take_length, show ds.map (·.1) = conNames m by rw [HDS.out.1]; rfl, show ds.length = (conNames m).length by rw [HDS.out.1]; exact (List.length_map ..).symm] at hown
      have hbx := HW.out.1
      rw [show ds.length = (conNames m).length by rw [HDS.out.1]; exact (List.length_map ..).symm] at hbx x2
      have hgw : w.heap.size < W.heap.size := hq0
      have HG := Hd (Ai HW.out.2.2.1 (below_of_new HB2.out.1 HW.out.2.2.1 (by omega)))
      have HS := Hd (show SAt wr W.heap.size none (.slice av (conNames m).length cv) from ⟨hbx, fun x hx => by cases hx⟩)
      have HRc := Hd (show RowAt wr (Apart W.heap.size) 9 1 (.slice av (conNames m).length cv) (conNames m).length (namesV (conNames m)) from RowAt.of hown (fun g hg => by show g ≠ W.heap.size; omega))
      have HMb := Hd (HB2.out.2.grown HW.out.2.2.1 (by omega))
      clear hown hbx HW HB HR1 z2 HDS gj
      have HTw := Hd (stwice_any W.heap.size none (.slice av (conNames m).length cv) (conNames m) av cv (Apart W.heap.size) (fun _ h => h) wr HS.out HRc.out)
      go_wp2_with fail
      refine HTw.out.mono ?_
      rintro e w3 ⟨rfl, hs3, hg3⟩
      have H3 := Hd (Ai hs3 (Ai (HMb.out.grown hg3 (by omega)) (Ai (HRc.out.apart hg3) (below_of_new HG.out.2 hg3 (by omega)))))
      have y1 : w3.cell? ⟨w.heap.size, 1, none⟩ = some (.slice ab m.2.length cb) := H3.out.2.1.1 1 _ rfl
      clear hs3 hg3 HTw HS HRc HMb HG x2
      obtain ⟨xb, hbr, hbt⟩ := HO.out.br
      have HBr := Hd (Ai (show RowAt w (fun g => g < w.heap.size) 36 10 (.slice ab m.2.length cb) m.2.length xb from hbr.low Br) (show BndsAt w (fun g => g < w.heap.size) m.2 xb from hbt.move fun g _ lt => ⟨lt, rfl⟩))
      clear hbr hbt
      have HNm := Hd (snames_any m.2 ab cb (fun g => g < w.heap.size) (fun g => g < w.heap.size) xb w3 (by omega) (HBr.out.1.move fun g hk lt => ⟨hk, H3.out.2.2.2.block g lt⟩) (HBr.out.2.move fun g hk lt => ⟨hk, H3.out.2.2.2.block g lt⟩))
      go_wp2_with fail
      refine HNm.out.mono ?_
      rintro e w4 ⟨⟨v, rfl, ho⟩, hb4⟩
      rw [← HLB.out] at ho
      obtain ⟨ag, cg, rfl, -⟩ := own_shape ho
      have H4 := Hd (Ai (H3.out.1.later hb4) (Ai (H3.out.2.1.below hb4) (Ai (H3.out.2.2.1.apartB hb4) (Ai (onB' H3.out.2.2.2 hb4) (show RowAt w4 (Apart W.heap.size) 9 1 (.slice ag (bNames m.2).length cg) (bNames m.2).length (namesV (bNames m.2)) from RowAt.of ho (fun g hg => by have := H3.out.1.lt; show g ≠ W.heap.size; omega))))))
      clear hb4 ho HNm H3 y1
      have HTw := Hd (stwice_any W.heap.size (none.or (twF (conNames m))) (.slice av (conNames m).length cv) (bNames m.2) ag cg (Apart W.heap.size) (fun _ h => h) w4 H4.out.1 H4.out.2.2.2.2)
      go_wp2_with fail
      refine HTw.out.mono ?_
      rintro e w5 ⟨rfl, hs5, hg5⟩
      have H5 := Hd (Ai hs5 (Ai (H4.out.2.1.grown hg5 (by omega)) (Ai (H4.out.2.2.1.apart hg5) (Ai (below_of_new H4.out.2.2.2.1 hg5 (by omega)) (H4.out.2.2.2.2.apart hg5)))))
      clear hs5 hg5 HTw H4
      have HIn := Hd (show Calls Try.prog 17 #[.slice ag (bNames m.2).length cg, .string ⟨#[109, 97, 105, 110]⟩] w5 fun e w' => e = .returned (.bool (decide (mainL ∈ bNames m.2))) ∧ Below w5.heap.size w5 w' from in_any (bNames m.2) mainL ag cg (Apart W.heap.size) w5 H5.out.2.2.2.2)
      go_wp2_with fail
      refine HIn.out.mono ?_
      rintro e w6 ⟨rfl, hb6⟩
      have H6 := Hd (Ai (H5.out.1.later hb6) (Ai (H5.out.2.1.below hb6) (Ai (H5.out.2.2.1.apartB hb6) (Ai (onB' H5.out.2.2.2.1 hb6) (H5.out.2.2.2.2.apartB hb6)))))
      clear hb6 HIn H5
      by_cases gm : mainL ∈ bNames m.2
      · rw [decide_eq_true gm]
        have HSD := Hd (show sdM m = (twF (conNames m)).or ((twF (bNames m.2)).or (sdBs (conNames m) (bNames m.2) m.2)) by unfold sdM; rw [if_pos gm, Option.none_or])
        have y1 : w6.cell? ⟨w.heap.size, 1, none⟩ = some (.slice ab m.2.length cb) := H6.out.2.1.1 1 _ rfl
        have HBd := Hd (sbinds_any _ (doc_all _) W.heap.size ((none.or (twF (conNames m))).or (twF (bNames m.2))) (conNames m) av cv (bNames m.2) ag cg m.2 (fun y hy => sumN_mem (fun b : Bnd => SizeOf.sizeOf b.2.2) hy) hm.wb (by have := HLB.out; omega) ab cb xb w6 H6.out.1 H6.out.2.2.1 H6.out.2.2.2.2 (HBr.out.1.move fun g hk lt => ⟨by show g ≠ W.heap.size; omega, H6.out.2.2.2.1.block g lt⟩) (HBr.out.2.move fun g hk lt => ⟨by show g ≠ W.heap.size; omega, H6.out.2.2.2.1.block g lt⟩))
        go_wp2_with fail
        refine HBd.out.mono ?_
        rintro e w8 ⟨rfl, hs8, hg8⟩
        have HE := Hd (below_of_new H6.out.2.2.2.1 hg8 (by omega))
        have u0 := hs8.box.1 0 _ rfl
        have u1 := hs8.box.1 1 _ rfl
        generalize hst : ((none.or (twF (conNames m))).or (twF (bNames m.2))).or (sdBs (conNames m) (bNames m.2) m.2) = ST at *
        have HST := Hd (show sdM m = ST by rw [HSD.out, ← hst]; simp only [Option.none_or, or_assoc_f])
        clear hs8 hg8 HBd y1 hst H6
        go_wp2_with fail
        go_quiet (fail)
        go_wp2_with fail
        go_ret2
        exact ⟨by rw [HST.out]; rfl, below_dN HE.out _⟩
      · rw [decide_eq_false gm]
        have HSD := Hd (show sdM m = (twF (conNames m)).or ((twF (bNames m.2)).or ((some (10, mainL)).or (sdBs (conNames m) (bNames m.2) m.2))) by unfold sdM; rw [if_neg gm])
        have HFl := Hd (show Calls Try.prog 27 #[.pointer (some ⟨W.heap.size, 0, none⟩), .int .i64 10, .string ⟨#[109, 97, 105, 110]⟩] w6 fun e w' => e = .returned (.tuple #[]) ∧ SAt w' W.heap.size (((none.or (twF (conNames m))).or (twF (bNames m.2))).or (some (10, mainL))) (.slice av (conNames m).length cv) ∧ w6.grownBy w' (some W.heap.size) from sfault_any W.heap.size ((none.or (twF (conNames m))).or (twF (bNames m.2))) (.slice av (conNames m).length cv) 10 (by decide) mainL w6 H6.out.1)
        go_wp2_with fail
        refine HFl.out.mono ?_
        rintro e w7 ⟨rfl, hs7, hg7⟩
        have H7 := Hd (Ai hs7 (Ai (H6.out.2.1.grown hg7 (by omega)) (Ai (H6.out.2.2.1.apart hg7) (Ai (below_of_new H6.out.2.2.2.1 hg7 (by omega)) (H6.out.2.2.2.2.apart hg7)))))
        clear hs7 hg7 HFl H6
        have y1 : w7.cell? ⟨w.heap.size, 1, none⟩ = some (.slice ab m.2.length cb) := H7.out.2.1.1 1 _ rfl
        have HBd := Hd (sbinds_any _ (doc_all _) W.heap.size (((none.or (twF (conNames m))).or (twF (bNames m.2))).or (some (10, mainL))) (conNames m) av cv (bNames m.2) ag cg m.2 (fun y hy => sumN_mem (fun b : Bnd => SizeOf.sizeOf b.2.2) hy) hm.wb (by have := HLB.out; omega) ab cb xb w7 H7.out.1 H7.out.2.2.1 H7.out.2.2.2.2 (HBr.out.1.move fun g hk lt => ⟨by show g ≠ W.heap.size; omega, H7.out.2.2.2.1.block g lt⟩) (HBr.out.2.move fun g hk lt => ⟨by show g ≠ W.heap.size; omega, H7.out.2.2.2.1.block g lt⟩))
        go_wp2_with fail
        refine HBd.out.mono ?_
        rintro e w8 ⟨rfl, hs8, hg8⟩
        have HE := Hd (below_of_new H7.out.2.2.2.1 hg8 (by omega))
        have u0 := hs8.box.1 0 _ rfl
        have u1 := hs8.box.1 1 _ rfl
        generalize hst : (((none.or (twF (conNames m))).or (twF (bNames m.2))).or (some (10, mainL))).or (sdBs (conNames m) (bNames m.2) m.2) = ST at *
        have HST := Hd (show sdM m = ST by rw [HSD.out, ← hst]; simp only [Option.none_or, or_assoc_f])
        clear hs8 hg8 HBd y1 hst H7
        go_wp2_with fail
        go_quiet (fail)
        go_wp2_with fail
        go_ret2
        exact ⟨by rw [HST.out]; rfl, below_dN HE.out _⟩
end Go.Proofs.Ytdjcdecbmeickaa
namespace Go.Proofs.Ytdjcdecbmeickaa
set_option maxHeartbeats 64000000
set_option maxRecDepth 100000
open Go.RowKit Go.Lib
theorem BndsAt.one {W : World} {K : Nat → Prop} : ∀ {bs : List Bnd} {xs : List Value}, BndsAt W K bs xs → ∀ u ∈ xs, u.oneCell' = true
  | [], _, .nil => fun u hu => by cases hu
  | _ :: _, _, .cons n ps e bs vp cs xs hp h t => fun u hu => by
    obtain ⟨_, _, _, rfl⟩ := hp.slice
    rcases List.mem_append.1 hu with hu | hu
    · rcases List.mem_cons.1 hu with rfl | hu
      · rfl
      · rcases List.mem_cons.1 hu with rfl | hu
        · rfl
        · exact h.one u hu
    · exact t.one u hu
theorem BndsAt.append {W : World} {K : Nat → Prop} : ∀ {ls bs : List Bnd} {xs ys : List Value}, BndsAt W K ls xs → BndsAt W K bs ys → BndsAt W K (ls ++ bs) (xs ++ ys)
  | [], _, _, _, .nil, h => h
  | _ :: _, bs, _, ys, .cons n ps e ls vp cs xs hp h t, h2 => by
    have r := BndsAt.cons n ps e (ls ++ bs) vp cs (xs ++ ys) hp h (t.append h2)
    simpa [List.append_assoc] using r
theorem BndsAt.len {W : World} {K : Nat → Prop} : ∀ {bs : List Bnd} {xs : List Value}, BndsAt W K bs xs → xs.length = bs.length * 10
  | [], _, .nil => rfl
  | _ :: bs, _, .cons n ps e _ vp cs xs hp h t => by
    have h8 : cs.length = 8 := by cases h; rfl
    have := t.len
    simp only [List.length_append, List.length_cons, h8, this]
    omega
theorem BndsAt.drop {W : World} {K : Nat → Prop} : ∀ {bs : List Bnd} {xs : List Value} (_ : BndsAt W K bs xs) (k : Nat), BndsAt W K (bs.drop k) (xs.drop (k * 10))
  | [], _, .nil, k => by simpa using BndsAt.nil
  | b :: bs, xs, h, 0 => by simpa using h
  | _ :: bs, _, .cons n ps e _ vp cs xs hp h t, k + 1 => by
    have h8 : cs.length = 8 := by cases h; rfl
    have h10 : (Value.string (tx n) :: vp :: cs).length = 10 := by simp [h8]
    have e1 : (Value.string (tx n) :: vp :: cs ++ xs).drop ((k + 1) * 10) = xs.drop (k * 10) := by
      rw [List.drop_append, h10]
      rw [List.drop_eq_nil_of_le (by omega), List.nil_append]
      congr 1
      omega
    rw [e1]
    exact t.drop k
theorem BndsAt.take {W : World} {K : Nat → Prop} : ∀ {bs : List Bnd} {xs : List Value} (_ : BndsAt W K bs xs) (k : Nat), BndsAt W K (bs.take k) (xs.take (k * 10))
  | [], _, .nil, k => by simpa using BndsAt.nil
  | b :: bs, xs, h, 0 => by simpa using BndsAt.nil
  | _ :: bs, _, .cons n ps e _ vp cs xs hp h t, k + 1 => by
    have h8 : cs.length = 8 := by cases h; rfl
    have h10 : (Value.string (tx n) :: vp :: cs).length = 10 := by simp [h8]
    have e1 : (Value.string (tx n) :: vp :: cs ++ xs).take ((k + 1) * 10) = Value.string (tx n) :: vp :: cs ++ xs.take (k * 10) := by
      rw [List.take_append, h10]
      rw [List.take_of_length_le (by omega)]
      congr 2
      omega
    rw [e1]
    exact .cons n ps e _ vp cs _ hp h (t.take k)
theorem FoOk.of {m : Md} (h : MdOk m) : FoOk (scM m) := scM_ok (wfBs_of h.wb) h.wd
end Go.Proofs.Ytdjcdecbmeickaa
namespace Go.Proofs.Ytdjcdecbmeickaa
set_option maxHeartbeats 64000000
set_option maxRecDepth 100000
open Go.RowKit Go.Lib
def pickL (i : Nat) (x : Nm) (L : List Bnd) : List Bnd := (L.zipIdx.filter fun q => decide (q.2 = i ∨ q.1.1 ≠ x)).map Prod.fst
theorem pickL_snoc (i : Nat) (x : Nm) (L : List Bnd) (b : Bnd) : pickL i x (L ++ [b]) = pickL i x L ++ (if L.length = i ∨ b.1 ≠ x then [b] else []) := by
  unfold pickL
  rw [List.zipIdx_append, List.filter_append, List.map_append]
  congr 1
  simp only [List.zipIdx_cons, List.zipIdx_nil, List.filter_cons, List.filter_nil, Nat.zero_add]
  by_cases h : L.length = i ∨ b.1 ≠ x
  · rw [if_pos h, if_pos (by simpa using h)]; rfl
  · rw [if_neg h, if_neg (by simpa using h)]; rfl
theorem pickL_sub (i : Nat) (x : Nm) (L : List Bnd) : (pickL i x L).Sublist L := by
  have h : ((L.zipIdx.filter fun q => decide (q.2 = i ∨ q.1.1 ≠ x)).map Prod.fst).Sublist (L.zipIdx.map Prod.fst) := List.Sublist.map _ List.filter_sublist
  rwa [List.zipIdx_map_fst] at h
theorem pickL_mem {i : Nat} {x : Nm} {L : List Bnd} {b : Bnd} (h : b ∈ pickL i x L) : b ∈ L := (pickL_sub i x L).subset h
theorem pickL_has {i : Nat} (x : Nm) {L : List Bnd} (hi : i < L.length) : L[i] ∈ pickL i x L := by
  unfold pickL
  refine List.mem_map.2 ⟨(L[i], i), List.mem_filter.2 ⟨?_, by simp⟩, rfl⟩
  exact List.mem_zipIdx_iff_getElem?.2 (by simp [List.getElem?_eq_getElem hi])
theorem pickL_not {i : Nat} {x : Nm} {L : List Bnd} (hi : i < L.length) (hne : L[i].1 ≠ x) : x ∉ bNames (pickL i x L) := by
  intro h
  unfold bNames pickL at h
  obtain ⟨b, hb, hbx⟩ := List.mem_map.1 h
  obtain ⟨⟨b', p⟩, hq, rfl⟩ := List.mem_map.1 hb
  obtain ⟨hq1, hq2⟩ := List.mem_filter.1 hq
  have hp := List.mem_zipIdx_iff_getElem?.1 hq1
  simp only [decide_eq_true_eq] at hq2
  rcases hq2 with rfl | h2
  · rw [List.getElem?_eq_getElem hi] at hp
    have : L[p] = b' := Oi hp
    subst this
    exact hne hbx
  · exact h2 hbx
theorem sumN_sub {α : Type} (f : α → Nat) {a b : List α} (h : a.Sublist b) : sumN f a ≤ sumN f b := by
  induction h with
  | slnil => exact Nat.le_refl _
  | cons x _ ih => simp only [sumN]; omega
  | cons_cons x _ ih => simp only [sumN]; omega
theorem pick_ok {m : Md} (hm : MdOk m) (i : Nat) (x : Nm) : MdOk (m.1, pickL i x m.2) := by
  have h1 := (pickL_sub i x m.2).length_le
  have h2 := sumN_sub nB (pickL_sub i x m.2)
  have h3 := hm.wt
  exact ⟨hm.wd, fun b hb => hm.wb b (pickL_mem hb), by simp only; omega⟩
theorem pick_none {m : Md} (hm : MdOk m) (h : (stN (sdM m)).1 = 0) : scM m = none := by
  have hf := FoOk.of hm
  rw [sdM_eq (wfBs_of hm.wb)] at h
  cases ho : scM m with
  | none => rfl
  | some q =>
    obtain ⟨e, n⟩ := q
    rw [ho] at h
    exact absurd h (hf e n ho).1
theorem scope_pick {m : Md} (hm : MdOk m) {i : Nat} (hi : i < m.2.length) {x : Nm} (hx : x ∈ bodyL m.2[i].2.1 m.2[i].2.2) (hne : m.2[i].1 ≠ x) : (stN (sdM (m.1, pickL i x m.2))).1 ≠ 0 := fun h =>
  vars_wanted hx (pickL_has x hi) (pickL_not hi hne) (pick_none (pick_ok hm i x) h)
theorem bnds_snoc {W : World} {K : Nat → Prop} {l : List Bnd} {xs : List Value} {b : Bnd} {aq : Option Addr} {cq : Nat} {cs : List Value} (h : BndsAt W K l xs) (hq : RowAt W K 9 1 (.slice aq b.2.1.length cq) b.2.1.length (namesV b.2.1)) (he : ExAt W K b.2.2 cs) :
    BndsAt W K (l ++ [b]) (xs ++ (.string (tx b.1) :: .slice aq b.2.1.length cq :: cs)) := by
  have h2 := BndsAt.cons b.1 b.2.1 b.2.2 [] (.slice aq b.2.1.length cq) cs [] hq he .nil
  rw [List.append_nil] at h2
  exact h.append h2
theorem boxw_same {W W' : World} {p : Nat} {cs : List Value} (h : BoxW W p cs) (hk : W'.heap[p]? = W.heap[p]?) : BoxW W' p cs :=
  ⟨fun j v hj => (World.cell?_of_block (a := ⟨p, j, none⟩) hk).trans (h.1 j v hj), fun j => (World.frozen?_of_block (w := W) (a := ⟨p, j, none⟩) hk).trans (h.2 j)⟩
end Go.Proofs.Ytdjcdecbmeickaa
namespace Go.Proofs.Ytdjcdecbmeickaa
set_option maxHeartbeats 64000000
set_option maxRecDepth 100000
open Go.RowKit Go.Lib
theorem vscope_walk (s : ByteArray) (w : World) :
    Calls Try.prog 4 #[.string s] w fun e w' => e = .returned (.bool true) ∧ Below w.heap.size w w' := by
  go_enter Try.func4, Try.ntmps4
  go_wp2_with fail
  refine (vawake_any w).mono ?_
  rintro e w1 ⟨rfl, hb⟩
  have H1 := Hd hb
  clear hb
  by_cases g3 : 3000 < s.size
  · have f3 : decide ((3000 : Int) < (s.size : Int)) = true := decide_eq_true (by omega)
    go_wp2_with fail
    go_ret
    exact ⟨rfl, H1.out⟩
  have f3 : decide ((3000 : Int) < (s.size : Int)) = false := decide_eq_false (by omega)
  have HP := Hd (told_any s (by omega) w1)
  have hsl : s.data.toList.length ≤ 100000 := by
    have := size_eq s
    omega
  go_wp2_with fail
  clear f3
  refine HP.out.mono ?_
  rintro e w2 ⟨hv, hb2⟩
  have HV := Hd (Ai hv (onB' H1.out hb2))
  clear hb2 hv HP
  cases ho : modL s.data.toList with
  | bad er ln =>
    have hv := HV.out.1
    rw [ho] at hv
    obtain ⟨hne, rfl⟩ := hv
    have f4 : (er != 0) = true := by simpa using hne
    have hx := Hd (onB' HV.out.2 ((Below.refl w2.heap.size w2).alloc Nr (.cells #[.slice none 0 0, .slice none 0 0] 41)))
    go_wp2_with fail
    go_ret
    exact ⟨rfl, hx.out⟩
  | ok md la ra =>
  have hv := HV.out.1
  rw [ho] at hv
  obtain ⟨ad, cd, ab, cb, rfl, hm⟩ := hv
  have hok := (modL_ok hsl ho).1
  have hx := (Below.refl w2.heap.size w2).alloc Nr (.cells #[.slice ad md.1.length cd, .slice ab md.2.length cb] 41)
  have HX := Hd (Ai (onB' HV.out.2 hx) (Ai (BoxW.alloc w2 #[.slice ad md.1.length cd, .slice ab md.2.length cb] 41) (hm.below hx)))
  have HK := Hd hok
  clear hm hx hok hsl ho
  go_upto_region 8 with fail
  have hbm : w2.heap.size < (w2.alloc (.cells #[.slice ad md.1.length cd, .slice ab md.2.length cb] 41)).heap.size := by simp
  generalize hbm0 : w2.heap.size = bm at *
  generalize (w2.alloc (.cells #[.slice ad md.1.length cd, .slice ab md.2.length cb] 41)) = W at *
  have HC := Hd (dcheck_any md HK.out ad cd ab cb _ W HX.out.2.2)
  have y0 : W.cell? ⟨bm, 0, none⟩ = some (.slice ad md.1.length cd) := HX.out.2.1.1 0 _ rfl
  have y1 : W.cell? ⟨bm, 1, none⟩ = some (.slice ab md.2.length cb) := HX.out.2.1.1 1 _ rfl
  go_wp2_with fail
  refine HC.out.mono ?_
  rintro e w3 ⟨rfl, hb3⟩
  have H3 := Hd (Ai (HX.out.2.1.below hb3) (Ai (HX.out.2.2.below hb3) (Ai (onB' HX.out.1 hb3) (Nat.lt_of_lt_of_le hbm hb3.size))))
  have HST := Hd (show (stN (sdM md)).1 = 0 → scM md = none from pick_none HK.out)
  clear hb3 HC y0 y1 HX hbm
  generalize stN (sdM md) = st at *
  obtain ⟨er, en⟩ := st
  by_cases ge : er = 0
  · subst ge
    have HN := Hd (HST.out rfl)
    obtain ⟨xb, hbr, hbt⟩ := H3.out.2.1.br
    have hmx := hbr.cap
    unfold maxLen at hmx
    have HB := Hd (Ai hbr (Ai hbt H3.out.2.1.dr))
    have HMW := Hd HK.out.wt
    clear hbr hbt HST HV hbm0
    go_wp2_with fail
    go_loopw [8] (fun s8 wr => ∃ i : Nat, i ≤ md.2.length ∧ s8 = .int .i64 i ∧ Below w3.heap.size w3 wr) (fun s8 _ => md.2.length - (RowKit.intOf s8).toNat)
    case atStart => exact ⟨0, Nat.zero_le _, rfl, Below.refl _ _⟩
    case round =>
    obtain ⟨i, hi, rfl, hbi⟩ := hrel
    have HR := Hd hbi
    clear hbi
    have x1 : wr.cell? ⟨bm, 1, none⟩ = some (.slice ab md.2.length cb) := later' HR.out (H3.out.1.1 1 _ rfl)
    by_cases gi : i < md.2.length
    · have gi' : (i : Int) < (md.2.length : Int) := by omega
      obtain ⟨aq, cq, k, nm, f, u, ap, np, cp, ak, nk, ck, ab', nb, cb', aa, na, ca, hQ, hE, hc⟩ := HB.out.2.1.cells i gi
      obtain ⟨g1, o1, ea1, k1, m1', hkg, ht1⟩ := HB.out.1.at (by omega)
      subst ea1
      have HT1 := Hd ht1
      have hwB : Nms md.2[i].2.1 ∧ wfE md.2[i].2.2 := (HK.out.wb md.2[i] (List.getElem_mem gi)).2
      have hnB : wtE md.2[i].2.2 + md.2[i].2.1.length ≤ 100000 := by
        have h := sumN_mem nB (List.getElem_mem gi)
        have h2 := HMW.out
        unfold nB at h h2
        omega
      have HKn := Hd (fun x hx => vars_known HN.out (List.getElem_mem gi) x hx)
      have HPk := Hd (fun x hx => scope_pick HK.out gi (x := x) hx)
      have HPc := Hd (fun v u h => later' HR.out (HT1.out _ _ (hc v u h)))
      have n0 : w3.cell? ⟨g1, o1 + i * 10, none⟩ = some (.string (tx md.2[i].1)) := HT1.out _ _ (hc 0 _ rfl)
      obtain ⟨nmI, hnmI⟩ : ∃ nmI, nmI = md.2[i].1 := ⟨_, rfl⟩
      obtain ⟨x, hxx⟩ : ∃ x, x = md.2[i].2.2 := ⟨_, rfl⟩
      obtain ⟨qs, hqs⟩ : ∃ qs, qs = md.2[i].2.1 := ⟨_, rfl⟩
      rw [← hxx] at hE hwB hnB HKn HPk
      rw [← hqs] at hQ hc HPc hwB hnB HKn HPk
      rw [← hnmI] at n0 HPk
      have HN0 := Hd n0
      clear n0
      have HXq := Hd (Ai (wvE_of x hwB.2) (Ai (nmv_len hwB.1.v) (Ai (hE.move (K' := fun _ => True) fun g hk lt => ⟨trivial, HR.out.block g lt⟩) (hQ.below HR.out))))
      clear ht1 hc hE hQ hwB hxx hqs
      have p1 : wr.cell? ⟨g1, o1 + i * 10 + 1, none⟩ = some (.slice aq qs.length cq) := by rw [Nat.add_assoc]; exact HPc.out 1 _ rfl
      have p2 : wr.cell? ⟨g1, o1 + i * 10 + 2, none⟩ = some (.int .i64 k) := by rw [Nat.add_assoc]; exact HPc.out 2 _ rfl
      have p3 : wr.cell? ⟨g1, o1 + i * 10 + 3, none⟩ = some (.string (tx nm)) := by rw [Nat.add_assoc]; exact HPc.out 3 _ rfl
      have p4 : wr.cell? ⟨g1, o1 + i * 10 + 4, none⟩ = some (.bool f) := by rw [Nat.add_assoc]; exact HPc.out 4 _ rfl
      have p5 : wr.cell? ⟨g1, o1 + i * 10 + 5, none⟩ = some (.int .u64 u) := by rw [Nat.add_assoc]; exact HPc.out 5 _ rfl
      have p6 : wr.cell? ⟨g1, o1 + i * 10 + 6, none⟩ = some (.slice ap np cp) := by rw [Nat.add_assoc]; exact HPc.out 6 _ rfl
      have p7 : wr.cell? ⟨g1, o1 + i * 10 + 7, none⟩ = some (.slice ak nk ck) := by rw [Nat.add_assoc]; exact HPc.out 7 _ rfl
      have p8 : wr.cell? ⟨g1, o1 + i * 10 + 8, none⟩ = some (.slice ab' nb cb') := by rw [Nat.add_assoc]; exact HPc.out 8 _ rfl
      have p9 : wr.cell? ⟨g1, o1 + i * 10 + 9, none⟩ = some (.slice aa na ca) := by rw [Nat.add_assoc]; exact HPc.out 9 _ rfl
      have HS := Hd (show ∀ W', Below wr.heap.size wr W' → (W'.cell? ⟨bm, 1, none⟩ = some (.slice (some ⟨g1, o1, none⟩) md.2.length cb) ∧ W'.cell? ⟨g1, o1 + i * 10 + 1, none⟩ = some (.slice aq qs.length cq) ∧ W'.cell? ⟨g1, o1 + i * 10 + 2, none⟩ = some (.int .i64 k) ∧ W'.cell? ⟨g1, o1 + i * 10 + 3, none⟩ = some (.string (tx nm)) ∧ W'.cell? ⟨g1, o1 + i * 10 + 4, none⟩ = some (.bool f) ∧ W'.cell? ⟨g1, o1 + i * 10 + 5, none⟩ = some (.int .u64 u) ∧ W'.cell? ⟨g1, o1 + i * 10 + 6, none⟩ = some (.slice ap np cp) ∧ W'.cell? ⟨g1, o1 + i * 10 + 7, none⟩ = some (.slice ak nk ck) ∧ W'.cell? ⟨g1, o1 + i * 10 + 8, none⟩ = some (.slice ab' nb cb') ∧ W'.cell? ⟨g1, o1 + i * 10 + 9, none⟩ = some (.slice aa na ca)) from fun W' h => ⟨later' h x1, later' h p1, later' h p2, later' h p3, later' h p4, later' h p5, later' h p6, later' h p7, later' h p8, later' h p9⟩)
      have hwt2 : qs.length + wtE x ≤ 100000 := by omega
      have HB1 := Hd (fun (V : World) (hb : Below wr.heap.size wr V) => vbody_said qs x HXq.out.2.1 HXq.out.1 hwt2 aq cq k nm f u ap np cp ak nk ck ab' nb cb' aa na ca (fun g => g < bm) (fun _ => True) V (HXq.out.2.2.2.below hb) (HXq.out.2.2.1.move fun g hk lt => ⟨hk, hb.block g lt⟩))
      generalize bodyL qs x = F at *
      have ei : IntKind.i64.wrap ((i : Int) + 1) = (i : Int) + 1 := by rw [IntKind.wrap_i64]; omega
      have bi : (0 : Int) ≤ (i : Int) := by omega
      go_wp2_with fail
      go_region_held3 (fun W' => W'.cell? ⟨bm, 1, none⟩ = some (.slice (some ⟨g1, o1, none⟩) md.2.length cb) ∧ W'.cell? ⟨g1, o1 + i * 10 + 1, none⟩ = some (.slice aq qs.length cq) ∧ W'.cell? ⟨g1, o1 + i * 10 + 2, none⟩ = some (.int .i64 k) ∧ W'.cell? ⟨g1, o1 + i * 10 + 3, none⟩ = some (.string (tx nm)) ∧ W'.cell? ⟨g1, o1 + i * 10 + 4, none⟩ = some (.bool f) ∧ W'.cell? ⟨g1, o1 + i * 10 + 5, none⟩ = some (.int .u64 u) ∧ W'.cell? ⟨g1, o1 + i * 10 + 6, none⟩ = some (.slice ap np cp) ∧ W'.cell? ⟨g1, o1 + i * 10 + 7, none⟩ = some (.slice ak nk ck) ∧ W'.cell? ⟨g1, o1 + i * 10 + 8, none⟩ = some (.slice ab' nb cb') ∧ W'.cell? ⟨g1, o1 + i * 10 + 9, none⟩ = some (.slice aa na ca)) (first | exact HS.out _ H11 | exact HS.out _ Br | go_keep) (first
        | (go_at_call 13
           refine (HB1.out _ (by exact Br.drew)).mono ?_
           rintro e w4 ⟨⟨v4, rfl, ho4⟩, hb4⟩
           obtain ⟨a4, c4, rfl, -⟩ := own_shape ho4
           have H11 : Below wr.heap.size wr w4 := onB' (Below.refl wr.heap.size wr).drew hb4
           have hr4 := RowAt.of (K := fun _ => True) ho4 (fun _ _ => trivial)
           clear hb4 ho4))
      have H4 := Hd (Ai hr4 (onB' HR.out H11))
      have hmF := hr4.cap
      unfold maxLen at hmF
      have z1 := later' H11 x1
      clear hr4 p1 p2 p3 p4 p5 p6 p7 p8 p9 HS HB1 H11 x1 HPc
      go_wp2_with fail
      generalize wr = wA at *
      go_loopw [10] (fun s10 wr => ∃ t : Nat, t ≤ F.length ∧ s10 = .int .i64 t ∧ Below w4.heap.size w4 wr) (fun s10 _ => F.length - (RowKit.intOf s10).toNat)
      case atStart => exact ⟨0, Nat.zero_le _, rfl, Below.refl _ _⟩
      case round =>
      obtain ⟨t, ht, rfl, hbt⟩ := hrel
      have HQ := Hd (Ai hbt (onB' H4.out.2 hbt))
      clear hbt z1
      by_cases gt : t < F.length
      · have gt' : (t : Int) < (F.length : Int) := by omega
        obtain ⟨gq, oq, eq1, kq1, mq1, -, htq⟩ := H4.out.1.at (by omega)
        subst eq1
        have HPq := Hd (htq t _ (namesV_get gt))
        have HM := Hd (Ai (HKn.out _ (List.getElem_mem gt)) (HPk.out _ (List.getElem_mem gt)))
        clear htq
        generalize F[t] = y at *
        have et : IntKind.i64.wrap ((t : Int) + 1) = (t : Int) + 1 := by rw [IntKind.wrap_i64]; omega
        have bt : (0 : Int) ≤ (t : Int) := by omega
        go_wp2_with fail
        generalize wr = wk at *
        go_loopw [11, 12] (fun s11 s12 wr => ∃ j : Nat, j ≤ md.2.length ∧ s11 = .bool (decide (y ∈ bNames (md.2.take j))) ∧ s12 = .int .i64 j ∧ Below wk.heap.size wk wr) (fun _ s12 _ => md.2.length - (RowKit.intOf s12).toNat)
        case atStart => exact ⟨0, Nat.zero_le _, by rw [List.take_zero]; rfl, rfl, Below.refl _ _⟩
        case round =>
        obtain ⟨j, hj, rfl, rfl, hbj⟩ := hrel
        have HJ := Hd (Ai hbj (Ai (onB' HQ.out.1 hbj) (onB' HQ.out.2 hbj)))
        clear hbj
        have x1 : wr.cell? ⟨bm, 1, none⟩ = some (.slice (some ⟨g1, o1, none⟩) md.2.length cb) := later' HJ.out.2.2 (H3.out.1.1 1 _ rfl)
        by_cases gj : j < md.2.length
        · have gj' : (j : Int) < (md.2.length : Int) := by omega
          have ej : IntKind.i64.wrap ((j : Int) + 1) = (j : Int) + 1 := by rw [IntKind.wrap_i64]; omega
          have bj : (0 : Int) ≤ (j : Int) := by omega
          obtain ⟨aq9, cq9, k9, nm9, f9, u9, ap9, np9, cp9, ak9, nk9, ck9, ab9, nb9, cb9, aa9, na9, ca9, -, -, hc9⟩ := HB.out.2.1.cells j gj
          have n9 : wr.cell? ⟨g1, o1 + j * 10, none⟩ = some (.string (tx md.2[j].1)) := later' HJ.out.2.2 (HT1.out _ _ (hc9 0 _ rfl))
          have q9 : wr.cell? ⟨gq, oq + t, none⟩ = some (.string (tx y)) := later' HJ.out.2.1 HPq.out
          have HTk := Hd (show bNames (md.2.take (j + 1)) = bNames (md.2.take j) ++ [md.2[j].1] by rw [List.take_succ_eq_append_getElem gj, bNames_snoc])
          clear hc9
          generalize md.2[j].1 = nj at *
          by_cases gk : y ∈ bNames (md.2.take j)
          · rw [decide_eq_true gk]
            have HG := Hd gk
            clear gk
            go_wp2_with fail
            go_quiet (fail)
            go_wp2_with fail
            refine ⟨⟨j + 1, by omega, ?_, by go_num, below_dN HJ.out.1 _⟩, by simp [RowKit.intOf]; omega⟩
            rw [HTk.out, decide_eq_true (List.mem_append.2 (Or.inl HG.out))]
          · rw [decide_eq_false gk]
            have HG := Hd gk
            clear gk
            by_cases ge : nj = y
            · subst ge
              have he : ((tx nj).toList == (tx nj).toList) = true := by simp
              go_wp2_with fail
              go_quiet (fail)
              go_wp2_with fail
              refine ⟨⟨j + 1, by omega, ?_, by go_num, below_dN HJ.out.1 _⟩, by simp [RowKit.intOf]; omega⟩
              rw [HTk.out, decide_eq_true (List.mem_append.2 (Or.inr (List.mem_singleton.2 rfl)))]
            · have he := tx_ne ge
              have HG2 := Hd (show y ∉ bNames (md.2.take j) ++ [nj] from fun h => by rcases List.mem_append.1 h with h | h; exact HG.out h; exact ge (List.mem_singleton.1 h).symm)
              clear ge
              go_wp2_with fail
              go_quiet (fail)
              go_wp2_with fail
              refine ⟨⟨j + 1, by omega, ?_, by go_num, below_dN HJ.out.1 _⟩, by simp [RowKit.intOf]; omega⟩
              rw [HTk.out, decide_eq_false HG2.out]
        obtain rfl : j = md.2.length := by omega
        rw [List.take_length, decide_eq_true HM.out.1]
        have x0 : wr.cell? ⟨bm, 0, none⟩ = some (.slice ad md.1.length cd) := later' HJ.out.2.2 (H3.out.1.1 0 _ rfl)
        go_upto_region 27 with fail
        have hza : (wr.alloc (.cells #[.slice ad md.1.length cd, .slice none 0 0] 41)).heap.size = wr.heap.size + 1 := by simp
        have hb1 := (Below.refl wr.heap.size wr).alloc Nr (.cells #[.slice ad md.1.length cd, .slice none 0 0] 41)
        have HNb := Hd (Ai (BoxW.alloc wr #[.slice ad md.1.length cd, .slice none 0 0] 41) (Ai hb1 (Ai hza (Nat.lt_of_lt_of_le H3.out.2.2.2 HJ.out.2.2.size))))
        obtain ⟨bn, hbn⟩ : ∃ bn, bn = wr.heap.size := ⟨_, rfl⟩
        clear hza hb1 x0 x1
        rw [← hbn] at HNb ⊢
        have HBn := Hd hbn
        clear hbn
        generalize (wr.alloc (.cells #[.slice ad md.1.length cd, .slice none 0 0] 41)) = wn at *
        generalize wr = wl at *
        obtain ⟨i0, hi0, hz0, hzs, hzb⟩ := info_parts Try.info_bind
        go_wp2_with fail
        go_loopw [14] (fun s14 wr => ∃ (j : Nat) (a : Option Addr) (c : Nat) (xs : List Value), j ≤ md.2.length ∧ s14 = .int .i64 j ∧ BoxW wr bn [.slice ad md.1.length cd, .slice a (pickL i y (md.2.take j)).length c] ∧ wr.ownsRow (bn + 1) 36 10 (.slice a (pickL i y (md.2.take j)).length c) (pickL i y (md.2.take j)).length xs ∧ BndsAt wr (fun g => g < bm) (pickL i y (md.2.take j)) xs ∧ Below wl.heap.size wl wr) (fun s14 _ => md.2.length - (RowKit.intOf s14).toNat)
        case atStart => exact ⟨0, none, 0, [], Nat.zero_le _, rfl, by rw [List.take_zero]; exact HNb.out.1, by rw [List.take_zero]; exact World.ownsRow_nil _ _ _ _, by rw [List.take_zero]; exact .nil, by have h := HNb.out.2.1; rw [HBn.out] at h; exact h⟩
        case round =>
        obtain ⟨j, av, cv, xs, hj, rfl, hbox, hown, hbnd, hbj⟩ := hrel
        have hlow : ∀ g, (Value.slice av (pickL i y (md.2.take j)).length cv).ownBlock = some g → bn + 1 ≤ g := fun g hg => (hown.lt g hg).1
        have HJ2 := Hd (Ai hbox (Ai hown (Ai hbnd (Ai hbj (Ai (onB' HJ.out.2.2 hbj) (Ai (onB' HJ.out.2.1 hbj) hlow))))))
        clear hbox hown hbnd hbj hlow
        have x1 : wr.cell? ⟨bm, 1, none⟩ = some (.slice (some ⟨g1, o1, none⟩) md.2.length cb) := later' HJ2.out.2.2.2.2.1 (H3.out.1.1 1 _ rfl)
        by_cases gj2 : j < md.2.length
        · have gj' : (j : Int) < (md.2.length : Int) := by omega
          have ej : IntKind.i64.wrap ((j : Int) + 1) = (j : Int) + 1 := by rw [IntKind.wrap_i64]; omega
          have bj : (0 : Int) ≤ (j : Int) := by omega
          obtain ⟨aq9, cq9, k9, nm9, f9, u9, ap9, np9, cp9, ak9, nk9, ck9, ab9, nb9, cb9, aa9, na9, ca9, hQ9, hE9, hc9⟩ := HB.out.2.1.cells j gj2
          have HP9 := Hd (fun v u h => later' HJ2.out.2.2.2.2.1 (HT1.out _ _ (hc9 v u h)))
          have HTk := Hd (show pickL i y (md.2.take (j + 1)) = pickL i y (md.2.take j) ++ (if j = i ∨ md.2[j].1 ≠ y then [md.2[j]] else []) by
            have h := pickL_snoc i y (md.2.take j) md.2[j]
            rw [List.length_take, Nat.min_eq_left (by omega)] at h
            rw [List.take_succ_eq_append_getElem gj2, h])
          have HSn := Hd (fun (h : BndsAt wr (fun g => g < bm) (pickL i y (md.2.take j)) xs) => bnds_snoc (b := md.2[j]) h (hQ9.move (K' := fun g => g < bm) fun g hk lt => ⟨hk, HJ2.out.2.2.2.2.1.block g lt⟩) (hE9.move (K' := fun g => g < bm) fun g hk lt => ⟨hk, HJ2.out.2.2.2.2.1.block g lt⟩))
          have n9 : wr.cell? ⟨g1, o1 + j * 10, none⟩ = some (.string (tx md.2[j].1)) := HP9.out 0 _ rfl
          have q9 : wr.cell? ⟨gq, oq + t, none⟩ = some (.string (tx y)) := later' HJ2.out.2.2.2.2.2.1 HPq.out
          have hpl : (pickL i y (md.2.take j)).length ≤ md.2.length := Nt (pickL_sub _ _ _).length_le (by rw [List.length_take]; omega)
          obtain ⟨bd, hbd⟩ : ∃ bd, bd = md.2[j] := ⟨_, rfl⟩
          rw [← hbd] at HTk HSn n9 HP9
          clear hbd hc9 hQ9 hE9
          go_wp2_with fail
          go_cut [110] (fun v wx => v = .bool (decide (j = i ∨ bd.1 ≠ y)) ∧ Below wr.heap.size wr wx)
          case first =>
            by_cases gji : j = i
            · subst gji
              have fji : ((j : Int) == (j : Int)) = true := by simp
              go_wp2_with fail
              go_quiet (fail)
              go_wp2_with fail
              go_meet
              exact ⟨by simp, below_dN Br _⟩
            · have fji : ((j : Int) == (i : Int)) = false := beq_eq_false_iff_ne.2 (by omega)
              by_cases ge : bd.1 = y
              · have HE2 := Hd (show decide (j = i ∨ bd.1 ≠ y) = false from decide_eq_false (fun h => by rcases h with h | h; exact gji h; exact h ge))
                rw [ge] at n9
                clear gji ge
                have he : ((tx y).toList == (tx y).toList) = true := by simp
                go_wp2_with fail
                go_quiet (fail)
                go_wp2_with fail
                go_meet
                exact ⟨by rw [HE2.out], below_dN Br _⟩
              · have HE2 := Hd (show decide (j = i ∨ bd.1 ≠ y) = true from decide_eq_true (Or.inr ge))
                have he := tx_ne ge
                clear gji ge
                generalize bd.1 = nj at *
                go_wp2_with fail
                go_quiet (fail)
                go_wp2_with fail
                go_meet
                exact ⟨by rw [HE2.out], below_dN Br _⟩
          case rest =>
          obtain ⟨rfl, hbc⟩ := hcut
          have HC2 := Hd (Ai (HJ2.out.1.below hbc) (Ai (own_below HJ2.out.2.1 hbc) (Ai (HJ2.out.2.2.1.move (K' := fun g => g < bm) fun g hk lt => ⟨hk, hbc.block g lt⟩) (onB' HJ2.out.2.2.2.1 hbc))))
          have HSn2 := Hd (show BndsAt wc (fun g => g < bm) (pickL i y (md.2.take j) ++ [bd]) (xs ++ (.string (tx bd.1) :: .slice aq9 bd.2.1.length cq9 :: [.int .i64 k9, .string (tx nm9), .bool f9, .int .u64 u9, .slice ap9 np9 cp9, .slice ak9 nk9 ck9, .slice ab9 nb9 cb9, .slice aa9 na9 ca9])) from (HSn.out HJ2.out.2.2.1).move (K' := fun g => g < bm) fun g hk lt => ⟨hk, hbc.block g lt⟩)
          have hlow := HJ2.out.2.2.2.2.2.2
          by_cases gs : j = i ∨ bd.1 ≠ y
          · rw [decide_eq_true gs]
            rw [if_pos gs] at HTk
            clear gs n9 q9
            have d1 := later' hbc x1
            have e0 : wc.cell? ⟨g1, o1 + j * 10, none⟩ = some (.string (tx bd.1)) := later' hbc (HP9.out 0 _ rfl)
            have e1 : wc.cell? ⟨g1, o1 + j * 10 + 1, none⟩ = some (.slice aq9 bd.2.1.length cq9) := by rw [Nat.add_assoc]; exact later' hbc (HP9.out 1 _ rfl)
            have e2 : wc.cell? ⟨g1, o1 + j * 10 + 2, none⟩ = some (.int .i64 k9) := by rw [Nat.add_assoc]; exact later' hbc (HP9.out 2 _ rfl)
            have e3 : wc.cell? ⟨g1, o1 + j * 10 + 3, none⟩ = some (.string (tx nm9)) := by rw [Nat.add_assoc]; exact later' hbc (HP9.out 3 _ rfl)
            have e4 : wc.cell? ⟨g1, o1 + j * 10 + 4, none⟩ = some (.bool f9) := by rw [Nat.add_assoc]; exact later' hbc (HP9.out 4 _ rfl)
            have e5 : wc.cell? ⟨g1, o1 + j * 10 + 5, none⟩ = some (.int .u64 u9) := by rw [Nat.add_assoc]; exact later' hbc (HP9.out 5 _ rfl)
            have e6 : wc.cell? ⟨g1, o1 + j * 10 + 6, none⟩ = some (.slice ap9 np9 cp9) := by rw [Nat.add_assoc]; exact later' hbc (HP9.out 6 _ rfl)
            have e7 : wc.cell? ⟨g1, o1 + j * 10 + 7, none⟩ = some (.slice ak9 nk9 ck9) := by rw [Nat.add_assoc]; exact later' hbc (HP9.out 7 _ rfl)
            have e8 : wc.cell? ⟨g1, o1 + j * 10 + 8, none⟩ = some (.slice ab9 nb9 cb9) := by rw [Nat.add_assoc]; exact later' hbc (HP9.out 8 _ rfl)
            have e9 : wc.cell? ⟨g1, o1 + j * 10 + 9, none⟩ = some (.slice aa9 na9 ca9) := by rw [Nat.add_assoc]; exact later' hbc (HP9.out 9 _ rfl)
            have hln := HC2.out.2.1
            generalize hN : (pickL i y (md.2.take j)).length = N at *
            have HNN := Hd hN
            clear hN
            have one1 : ∀ u ∈ ([.string (tx bd.1), .slice aq9 bd.2.1.length cq9, .int .i64 k9, .string (tx nm9), .bool f9, .int .u64 u9, .slice ap9 np9 cp9, .slice ak9 nk9 ck9, .slice ab9 nb9 cb9, .slice aa9 na9 ca9] : List Value), u.oneCell' = true := by intro u hu; simp at hu; rcases hu with rfl | rfl | rfl | rfl | rfl | rfl | rfl | rfl | rfl | rfl <;> rfl
            have hwtm := HMW.out
            have m9 : N + 1 ≤ maxLen := by unfold maxLen; omega
            have m8 : (N + 1) * 176 ≤ 140737488355328 := by omega
            have HAl := Hd ((Below.refl wc.heap.size wc).alloc Nr (.cells #[.string (tx bd.1), .slice aq9 bd.2.1.length cq9, .int .i64 k9, .string (tx nm9), .bool f9, .int .u64 u9, .slice ap9 np9 cp9, .slice ak9 nk9 ck9, .slice ab9 nb9 cb9, .slice aa9 na9 ca9] 36)).drew
            have HO8 := Hd (own_below hln HAl.out)
            have hbase : bn + 1 ≤ ((wc.alloc (.cells #[.string (tx bd.1), .slice aq9 bd.2.1.length cq9, .int .i64 k9, .string (tx nm9), .bool f9, .int .u64 u9, .slice ap9 np9 cp9, .slice ak9 nk9 ck9, .slice ab9 nb9 cb9, .slice aa9 na9 ca9] 36)).drew).heap.size := Nt (Nat.succ_le_of_lt HC2.out.1.lt) HAl.out.size
            have c1 : wc.cell? ⟨bn, 1, none⟩ = some (.slice av N cv) := HC2.out.1.1 1 _ rfl
            have HF8 := Hd (HC2.out.1.below HAl.out)
            have c1' : (wc.alloc (.cells #[.string (tx bd.1), .slice aq9 bd.2.1.length cq9, .int .i64 k9, .string (tx nm9), .bool f9, .int .u64 u9, .slice ap9 np9 cp9, .slice ak9 nk9 ck9, .slice ab9 nb9 cb9, .slice aa9 na9 ca9] 36)).cell? ⟨bn, 1, none⟩ = some (.slice av N cv) := later' ((Below.refl wc.heap.size wc).alloc Nr (.cells #[.string (tx bd.1), .slice aq9 bd.2.1.length cq9, .int .i64 k9, .string (tx nm9), .bool f9, .int .u64 u9, .slice ap9 np9 cp9, .slice ak9 nk9 ck9, .slice ab9 nb9 cb9, .slice aa9 na9 ca9] 36)) c1
            clear hln hwtm
            go_wp2_with fail
            go_region_law (refine step_append_lies _ rfl _ _ 24 rfl (bn + 1) 36 i0 (.agg #[.string ⟨#[]⟩, .slice none 0 0, .int .i64 0, .string ⟨#[]⟩, .bool false, .int .u64 0, .slice none 0 0, .slice none 0 0, .slice none 0 0, .slice none 0 0]) 10 176 Try.underlying24 hi0 hz0 hzs hzb rfl (by decide) (.slice av N cv) N xs rfl HO8.out ⟨wc.heap.size, 0, none⟩ 1 1 [.string (tx bd.1), .slice aq9 bd.2.1.length cq9, .int .i64 k9, .string (tx nm9), .bool f9, .int .u64 u9, .slice ap9 np9 cp9, .slice ak9 nk9 ck9, .slice ab9 nb9 cb9, .slice aa9 na9 ca9] rfl rfl (World.news_of_block (heap_alloc_new wc _)) one1 (by decide) m9 m8 hbase _ rfl ?_; intro g9 cap9 w9 y1 y2 y3 y4; have z6 := boxw_same HF8.out (y2.block bn HF8.out.lt (fun e => by have := hlow bn e.symm; omega)); have z7 : w9.cell? ⟨bn, 1, none⟩ = some (.slice av N cv) := z6.1 1 _ rfl; have z8 : w9.frozen? ⟨bn, 1, none⟩ = false := z6.2 1)
            all_goals go_wp2_with fail
            all_goals
              have HY := Hd (Ai y1 (Ai y2 z6))
              have hg9 := (y1.lt g9 rfl).1
              clear y1 y2 y3 y4 z6 z7 z8
              refine ⟨⟨j + 1, some ⟨g9, 0, none⟩, cap9, xs ++ [.string (tx bd.1), .slice aq9 bd.2.1.length cq9, .int .i64 k9, .string (tx nm9), .bool f9, .int .u64 u9, .slice ap9 np9 cp9, .slice ak9 nk9 ck9, .slice ab9 nb9 cb9, .slice aa9 na9 ca9], by omega, by go_num, ?_, ?_, ?_, ?_⟩, by simp [RowKit.intOf]; omega⟩
              · rw [HTk.out, List.length_append, HNN.out]
                exact HY.out.2.2.set 1 (by simp) (.slice (some ⟨g9, 0, none⟩) (N + 1) cap9)
              · rw [HTk.out, List.length_append, HNN.out]
                refine own_same HY.out.1 fun g hg => ?_
                have e2 : g9 = g := Oi hg
                exact Below.heap_setCell _ _ _ _ (by simp only; omega)
              · rw [HTk.out]
                refine HSn2.out.move (K' := fun g => g < bm) fun g hk lt => ⟨hk, ?_⟩
                have hbb := HNb.out.2.2.2
                exact (Below.heap_setCell _ _ _ _ (by simp only; omega)).trans ((HY.out.2.1.block g (Nat.lt_of_lt_of_le lt HAl.out.size) (fun e => by have := hlow g e.symm; omega)).trans (HAl.out.block g lt))
              · have hx := onB' HC2.out.2.2.2 HAl.out
                have hs := set_grown w9 bn 1 (.slice (some ⟨g9, 0, none⟩) (N + 1) cap9)
                have hbw := HBn.out
                exact ⟨hs.os.trans (HY.out.2.1.os.trans hx.os), hs.tape.trans (HY.out.2.1.tape.trans hx.tape), hs.output.trans (HY.out.2.1.output.trans hx.output), Nt hx.size (Nt HY.out.2.1.size hs.size), fun q hq => (Below.heap_setCell _ _ _ _ (by simp only; omega)).trans ((HY.out.2.1.block q (Nat.lt_of_lt_of_le hq hx.size) (fun e => by have := hlow q e.symm; omega)).trans (hx.block q hq))⟩
          · rw [decide_eq_false gs]
            rw [if_neg gs, List.append_nil] at HTk
            clear gs
            go_wp2_with fail
            refine ⟨⟨j + 1, av, cv, xs, by omega, by go_num, ?_, ?_, ?_, HC2.out.2.2.2⟩, by simp [RowKit.intOf]; omega⟩
            · rw [HTk.out]; exact HC2.out.1
            · rw [HTk.out]; exact HC2.out.2.1
            · rw [HTk.out]; exact HC2.out.2.2.1
        obtain rfl : j = md.2.length := by omega
        rw [List.take_length] at HJ2
        have c0 : wr.cell? ⟨bn, 0, none⟩ = some (.slice ad md.1.length cd) := HJ2.out.1.1 0 _ rfl
        have c1 : wr.cell? ⟨bn, 1, none⟩ = some (.slice av (pickL i y md.2).length cv) := HJ2.out.1.1 1 _ rfl
        have HCk := Hd (dcheck_any (md.1, pickL i y md.2) (pick_ok HK.out i y) ad cd av cv (fun _ => True) wr ⟨(HB.out.2.2.below HJ2.out.2.2.2.2.1).move (K' := fun _ => True) (fun g _ _ => ⟨trivial, rfl⟩), xs, RowAt.of HJ2.out.2.1 (fun _ _ => trivial), HJ2.out.2.2.1.move (K' := fun _ => True) (fun g _ _ => ⟨trivial, rfl⟩)⟩)
        have HNe := Hd HM.out.2
        obtain ⟨st2, hst2⟩ : ∃ st2, st2 = stN (sdM (md.1, pickL i y md.2)) := ⟨_, rfl⟩
        rw [← hst2] at HCk HNe
        clear hst2
        obtain ⟨er2, en2⟩ := st2
        go_wp2_with fail
        refine HCk.out.mono ?_
        rintro e w6 ⟨rfl, hb6⟩
        have H6 := Hd (Ai (onB' HJ2.out.2.2.2.2.1 hb6) (onB' HJ2.out.2.2.2.2.2.1 hb6))
        have HX6 := Hd (onB' HJ2.out.2.2.2.1 hb6)
        clear hb6 c0 c1 x1 HCk
        have x1 : w6.cell? ⟨bm, 1, none⟩ = some (.slice (some ⟨g1, o1, none⟩) md.2.length cb) := later' H6.out.1 (H3.out.1.1 1 _ rfl)
        have n6 : w6.cell? ⟨g1, o1 + i * 10, none⟩ = some (.string (tx nmI)) := later' H6.out.1 HN0.out
        have q6 : w6.cell? ⟨gq, oq + t, none⟩ = some (.string (tx y)) := later' H6.out.2 HPq.out
        by_cases gn : nmI = y
        · have he : ((tx y).toList == (tx y).toList) = true := by simp
          rw [gn] at n6
          clear gn
          by_cases ge2 : er2 = 0
          · subst ge2
            have fe : ((0 : Int) == 0) = true := rfl
            go_wp2_with fail
            go_quiet (fail)
            go_wp2_with fail
            exact ⟨⟨t + 1, by omega, by go_num, below_dN (onB' HQ.out.1 (onB' HJ.out.1 HX6.out)) _⟩, by simp [RowKit.intOf]; omega⟩
          · have fe : (er2 == 0) = false := beq_eq_false_iff_ne.2 ge2
            go_wp2_with fail
            go_quiet (fail)
            go_wp2_with fail
            exact ⟨⟨t + 1, by omega, by go_num, below_dN (onB' HQ.out.1 (onB' HJ.out.1 HX6.out)) _⟩, by simp [RowKit.intOf]; omega⟩
        · have fe : (er2 == 0) = false := beq_eq_false_iff_ne.2 (HNe.out gn)
          clear gn
          go_wp2_with fail
          go_quiet (fail)
          go_wp2_with fail
          exact ⟨⟨t + 1, by omega, by go_num, below_dN (onB' HQ.out.1 (onB' HJ.out.1 HX6.out)) _⟩, by simp [RowKit.intOf]; omega⟩
      · obtain rfl : t = F.length := by omega
        go_wp2_with fail
        exact ⟨⟨i + 1, by omega, by go_num, HQ.out.2⟩, by simp [RowKit.intOf]; omega⟩
    · obtain rfl : i = md.2.length := by omega
      have HB3 := Hd (onB' H3.out.2.2.1 HR.out)
      go_wp2_with fail
      go_ret
      exact ⟨rfl, HB3.out⟩
  · have f5 : (er != 0) = true := by simpa using ge
    have HB3 := Hd H3.out.2.2.1
    go_wp2_with fail
    go_ret
    exact ⟨rfl, HB3.out⟩
end Go.Proofs.Ytdjcdecbmeickaa
