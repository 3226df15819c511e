import Derived.LaidEql
import Derived.Stop.Asserts
import Derived.RowKitTokens
import Derived.Test.YtdjcdecbmeickaaMg4
import Derived.Test.YtdjcdecbmeickaaMg10
import Derived.Test.YtdjcdecbmeickaaMg11
namespace Go.Proofs.Ytdjcdecbmeickaa
set_option maxHeartbeats 64000000
set_option maxRecDepth 100000
open Go.RowKit Go.Shelf Go.Lib
attribute [local go_sem] Oper.semAt_some
attribute [-go_sem] Builtin.append_ in
theorem vbody_said (ps : List Nm) (x : Ex) (hq : ∀ y, y ∈ ps → y.length ≤ 140737488355328) (hx : wvE x) (hn : ps.length + wtE x ≤ 100000) (a0 : Option Addr) (c0 : Nat) (k : Int) (nm : Nm) (f : Bool) (u : Int) (ap : Option Addr) (np cp : Nat) (ak : Option Addr) (nk ck : Nat) (ab : Option Addr) (nb cb : Nat) (aa : Option Addr) (na ca : Nat) (K K2 : Nat → Prop) (w : World)
    (hr : RowAt w K 9 1 (.slice a0 ps.length c0) ps.length (namesV ps)) (ht : ExAt w K2 x [.int .i64 k, .string (tx nm), .bool f, .int .u64 u, .slice ap np cp, .slice ak nk ck, .slice ab nb cb, .slice aa na ca]) :
    Calls Try.prog 13 #[.slice a0 ps.length c0, .agg #[.int .i64 k, .string (tx nm), .bool f, .int .u64 u, .slice ap np cp, .slice ak nk ck, .slice ab nb cb, .slice aa na ca]] w fun e w' => (∃ v, e = .returned v ∧ w'.ownsRow w.heap.size 9 1 v (bodyL ps x).length (namesV (bodyL ps x))) ∧ Below w.heap.size w w' := by
  have hmm := @run_makeMap Try.prog
  have HOut := Hd (fun (W : World) => outside_any a0 ps.length c0 k nm f u ap np cp ak nk ck ab nb cb aa na ca W)
  have b1 := (Below.refl w.heap.size w).alloc Nr (.cells #[.int .i64 k, .string (tx nm), .bool f, .int .u64 u, .slice ap np cp, .slice ak nk ck, .slice ab nb cb, .slice aa na ca] 34)
  have b2 := b1.alloc b1.size (.cells #[.slice none 0 0] 22)
  have b3 := b2.alloc b2.size (.map #[] 0)
  have b4 := b3.alloc b3.size (.cells #[.map (some (w.heap.size + 1 + 1))] 52)
  have b5 := b4.alloc b4.size (.cells #[.slice a0 ps.length c0] 22)
  have b6 := b5.alloc b5.size (.cells #[.int .i64 k, .string (tx nm), .bool f, .int .u64 u, .slice ap np cp, .slice ak nk ck, .slice ab nb cb, .slice aa na ca] 34)
  have z1 : (w.alloc (.cells #[.int .i64 k, .string (tx nm), .bool f, .int .u64 u, .slice ap np cp, .slice ak nk ck, .slice ab nb cb, .slice aa na ca] 34)).heap.size = w.heap.size + 1 := by simp
  have z2 : ((w.alloc (.cells #[.int .i64 k, .string (tx nm), .bool f, .int .u64 u, .slice ap np cp, .slice ak nk ck, .slice ab nb cb, .slice aa na ca] 34)).alloc (.cells #[.slice none 0 0] 22)).heap.size = w.heap.size + 2 := by simp
  have z3 : (((w.alloc (.cells #[.int .i64 k, .string (tx nm), .bool f, .int .u64 u, .slice ap np cp, .slice ak nk ck, .slice ab nb cb, .slice aa na ca] 34)).alloc (.cells #[.slice none 0 0] 22)).alloc (.map #[] 0)).heap.size = w.heap.size + 3 := by simp
  have z4 : ((((w.alloc (.cells #[.int .i64 k, .string (tx nm), .bool f, .int .u64 u, .slice ap np cp, .slice ak nk ck, .slice ab nb cb, .slice aa na ca] 34)).alloc (.cells #[.slice none 0 0] 22)).alloc (.map #[] 0)).alloc (.cells #[.map (some (w.heap.size + 1 + 1))] 52)).heap.size = w.heap.size + 4 := by simp
  have z5 : (((((w.alloc (.cells #[.int .i64 k, .string (tx nm), .bool f, .int .u64 u, .slice ap np cp, .slice ak nk ck, .slice ab nb cb, .slice aa na ca] 34)).alloc (.cells #[.slice none 0 0] 22)).alloc (.map #[] 0)).alloc (.cells #[.map (some (w.heap.size + 1 + 1))] 52)).alloc (.cells #[.slice a0 ps.length c0] 22)).heap.size = w.heap.size + 5 := by simp
  have z6 : ((((((w.alloc (.cells #[.int .i64 k, .string (tx nm), .bool f, .int .u64 u, .slice ap np cp, .slice ak nk ck, .slice ab nb cb, .slice aa na ca] 34)).alloc (.cells #[.slice none 0 0] 22)).alloc (.map #[] 0)).alloc (.cells #[.map (some (w.heap.size + 1 + 1))] 52)).alloc (.cells #[.slice a0 ps.length c0] 22)).alloc (.cells #[.int .i64 k, .string (tx nm), .bool f, .int .u64 u, .slice ap np cp, .slice ak nk ck, .slice ab nb cb, .slice aa na ca] 34)).heap.size = w.heap.size + 6 := by simp
  have l2 := (Below.refl (w.alloc (.cells #[.int .i64 k, .string (tx nm), .bool f, .int .u64 u, .slice ap np cp, .slice ak nk ck, .slice ab nb cb, .slice aa na ca] 34)).heap.size (w.alloc (.cells #[.int .i64 k, .string (tx nm), .bool f, .int .u64 u, .slice ap np cp, .slice ak nk ck, .slice ab nb cb, .slice aa na ca] 34))).alloc Nr (.cells #[.slice none 0 0] 22)
  have l3 := (Below.refl ((w.alloc (.cells #[.int .i64 k, .string (tx nm), .bool f, .int .u64 u, .slice ap np cp, .slice ak nk ck, .slice ab nb cb, .slice aa na ca] 34)).alloc (.cells #[.slice none 0 0] 22)).heap.size ((w.alloc (.cells #[.int .i64 k, .string (tx nm), .bool f, .int .u64 u, .slice ap np cp, .slice ak nk ck, .slice ab nb cb, .slice aa na ca] 34)).alloc (.cells #[.slice none 0 0] 22))).alloc Nr (.map #[] 0)
  have l4 := (Below.refl (((w.alloc (.cells #[.int .i64 k, .string (tx nm), .bool f, .int .u64 u, .slice ap np cp, .slice ak nk ck, .slice ab nb cb, .slice aa na ca] 34)).alloc (.cells #[.slice none 0 0] 22)).alloc (.map #[] 0)).heap.size (((w.alloc (.cells #[.int .i64 k, .string (tx nm), .bool f, .int .u64 u, .slice ap np cp, .slice ak nk ck, .slice ab nb cb, .slice aa na ca] 34)).alloc (.cells #[.slice none 0 0] 22)).alloc (.map #[] 0))).alloc Nr (.cells #[.map (some (w.heap.size + 1 + 1))] 52)
  have l5 := (Below.refl ((((w.alloc (.cells #[.int .i64 k, .string (tx nm), .bool f, .int .u64 u, .slice ap np cp, .slice ak nk ck, .slice ab nb cb, .slice aa na ca] 34)).alloc (.cells #[.slice none 0 0] 22)).alloc (.map #[] 0)).alloc (.cells #[.map (some (w.heap.size + 1 + 1))] 52)).heap.size ((((w.alloc (.cells #[.int .i64 k, .string (tx nm), .bool f, .int .u64 u, .slice ap np cp, .slice ak nk ck, .slice ab nb cb, .slice aa na ca] 34)).alloc (.cells #[.slice none 0 0] 22)).alloc (.map #[] 0)).alloc (.cells #[.map (some (w.heap.size + 1 + 1))] 52))).alloc Nr (.cells #[.slice a0 ps.length c0] 22)
  have l6 := (Below.refl (((((w.alloc (.cells #[.int .i64 k, .string (tx nm), .bool f, .int .u64 u, .slice ap np cp, .slice ak nk ck, .slice ab nb cb, .slice aa na ca] 34)).alloc (.cells #[.slice none 0 0] 22)).alloc (.map #[] 0)).alloc (.cells #[.map (some (w.heap.size + 1 + 1))] 52)).alloc (.cells #[.slice a0 ps.length c0] 22)).heap.size (((((w.alloc (.cells #[.int .i64 k, .string (tx nm), .bool f, .int .u64 u, .slice ap np cp, .slice ak nk ck, .slice ab nb cb, .slice aa na ca] 34)).alloc (.cells #[.slice none 0 0] 22)).alloc (.map #[] 0)).alloc (.cells #[.map (some (w.heap.size + 1 + 1))] 52)).alloc (.cells #[.slice a0 ps.length c0] 22))).alloc Nr (.cells #[.int .i64 k, .string (tx nm), .bool f, .int .u64 u, .slice ap np cp, .slice ak nk ck, .slice ab nb cb, .slice aa na ca] 34)
  have f1 := heap_alloc_new (w.alloc (.cells #[.int .i64 k, .string (tx nm), .bool f, .int .u64 u, .slice ap np cp, .slice ak nk ck, .slice ab nb cb, .slice aa na ca] 34)) (.cells #[.slice none 0 0] 22)
  have f4 := heap_alloc_new (((w.alloc (.cells #[.int .i64 k, .string (tx nm), .bool f, .int .u64 u, .slice ap np cp, .slice ak nk ck, .slice ab nb cb, .slice aa na ca] 34)).alloc (.cells #[.slice none 0 0] 22)).alloc (.map #[] 0)) (.cells #[.map (some (w.heap.size + 1 + 1))] 52)
  have f5 := heap_alloc_new ((((w.alloc (.cells #[.int .i64 k, .string (tx nm), .bool f, .int .u64 u, .slice ap np cp, .slice ak nk ck, .slice ab nb cb, .slice aa na ca] 34)).alloc (.cells #[.slice none 0 0] 22)).alloc (.map #[] 0)).alloc (.cells #[.map (some (w.heap.size + 1 + 1))] 52)) (.cells #[.slice a0 ps.length c0] 22)
  have f6 := BoxW.alloc (((((w.alloc (.cells #[.int .i64 k, .string (tx nm), .bool f, .int .u64 u, .slice ap np cp, .slice ak nk ck, .slice ab nb cb, .slice aa na ca] 34)).alloc (.cells #[.slice none 0 0] 22)).alloc (.map #[] 0)).alloc (.cells #[.map (some (w.heap.size + 1 + 1))] 52)).alloc (.cells #[.slice a0 ps.length c0] 22)) #[.int .i64 k, .string (tx nm), .bool f, .int .u64 u, .slice ap np cp, .slice ak nk ck, .slice ab nb cb, .slice aa na ca] 34
  have n3 := nset_made ((w.alloc (.cells #[.int .i64 k, .string (tx nm), .bool f, .int .u64 u, .slice ap np cp, .slice ak nk ck, .slice ab nb cb, .slice aa na ca] 34)).alloc (.cells #[.slice none 0 0] 22))
  have g36 := onB' (onB' l4 l5) l6
  have g26 := onB' l3 g36
  have g46 := onB' l5 l6
  rw [z1] at f1
  rw [z2] at n3 g26
  rw [z3] at f4 g36
  rw [z4] at f5 g46
  rw [z5] at f6 l6
  have HW := Hd (show Below w.heap.size w ((((((w.alloc (.cells #[.int .i64 k, .string (tx nm), .bool f, .int .u64 u, .slice ap np cp, .slice ak nk ck, .slice ab nb cb, .slice aa na ca] 34)).alloc (.cells #[.slice none 0 0] 22)).alloc (.map #[] 0)).alloc (.cells #[.map (some (w.heap.size + 1 + 1))] 52)).alloc (.cells #[.slice a0 ps.length c0] 22)).alloc (.cells #[.int .i64 k, .string (tx nm), .bool f, .int .u64 u, .slice ap np cp, .slice ak nk ck, .slice ab nb cb, .slice aa na ca] 34)) ∧ ((((((w.alloc (.cells #[.int .i64 k, .string (tx nm), .bool f, .int .u64 u, .slice ap np cp, .slice ak nk ck, .slice ab nb cb, .slice aa na ca] 34)).alloc (.cells #[.slice none 0 0] 22)).alloc (.map #[] 0)).alloc (.cells #[.map (some (w.heap.size + 1 + 1))] 52)).alloc (.cells #[.slice a0 ps.length c0] 22)).alloc (.cells #[.int .i64 k, .string (tx nm), .bool f, .int .u64 u, .slice ap np cp, .slice ak nk ck, .slice ab nb cb, .slice aa na ca] 34)).heap[w.heap.size + 1]? = some (.cells #[.slice none 0 0] 22 (0, 0)) ∧ ((((((w.alloc (.cells #[.int .i64 k, .string (tx nm), .bool f, .int .u64 u, .slice ap np cp, .slice ak nk ck, .slice ab nb cb, .slice aa na ca] 34)).alloc (.cells #[.slice none 0 0] 22)).alloc (.map #[] 0)).alloc (.cells #[.map (some (w.heap.size + 1 + 1))] 52)).alloc (.cells #[.slice a0 ps.length c0] 22)).alloc (.cells #[.int .i64 k, .string (tx nm), .bool f, .int .u64 u, .slice ap np cp, .slice ak nk ck, .slice ab nb cb, .slice aa na ca] 34)).heap[w.heap.size + 3]? = some (.cells #[.map (some (w.heap.size + 1 + 1))] 52) ∧ NSet ((((((w.alloc (.cells #[.int .i64 k, .string (tx nm), .bool f, .int .u64 u, .slice ap np cp, .slice ak nk ck, .slice ab nb cb, .slice aa na ca] 34)).alloc (.cells #[.slice none 0 0] 22)).alloc (.map #[] 0)).alloc (.cells #[.map (some (w.heap.size + 1 + 1))] 52)).alloc (.cells #[.slice a0 ps.length c0] 22)).alloc (.cells #[.int .i64 k, .string (tx nm), .bool f, .int .u64 u, .slice ap np cp, .slice ak nk ck, .slice ab nb cb, .slice aa na ca] 34)) (w.heap.size + 2) 0 [] ∧ ((((((w.alloc (.cells #[.int .i64 k, .string (tx nm), .bool f, .int .u64 u, .slice ap np cp, .slice ak nk ck, .slice ab nb cb, .slice aa na ca] 34)).alloc (.cells #[.slice none 0 0] 22)).alloc (.map #[] 0)).alloc (.cells #[.map (some (w.heap.size + 1 + 1))] 52)).alloc (.cells #[.slice a0 ps.length c0] 22)).alloc (.cells #[.int .i64 k, .string (tx nm), .bool f, .int .u64 u, .slice ap np cp, .slice ak nk ck, .slice ab nb cb, .slice aa na ca] 34)).heap[w.heap.size + 4]? = some (.cells #[.slice a0 ps.length c0] 22) ∧ BoxW ((((((w.alloc (.cells #[.int .i64 k, .string (tx nm), .bool f, .int .u64 u, .slice ap np cp, .slice ak nk ck, .slice ab nb cb, .slice aa na ca] 34)).alloc (.cells #[.slice none 0 0] 22)).alloc (.map #[] 0)).alloc (.cells #[.map (some (w.heap.size + 1 + 1))] 52)).alloc (.cells #[.slice a0 ps.length c0] 22)).alloc (.cells #[.int .i64 k, .string (tx nm), .bool f, .int .u64 u, .slice ap np cp, .slice ak nk ck, .slice ab nb cb, .slice aa na ca] 34)) (w.heap.size + 5) [.int .i64 k, .string (tx nm), .bool f, .int .u64 u, .slice ap np cp, .slice ak nk ck, .slice ab nb cb, .slice aa na ca] from
    ⟨b6, (g26.block _ (by omega)).trans f1, (g46.block _ (by omega)).trans f4, n3.same (g36.block _ (by omega)), (l6.block _ (by omega)).trans f5, f6⟩)
  have HZ := Hd z6
  have HI := Hd (Ai (hr.low b6) (ht.move fun g hk lt => ⟨(show g < w.heap.size from lt), b6.block g lt⟩))
  clear b1 b2 b3 b4 b5 b6 z1 z2 z3 z4 z5 z6 l2 l3 l4 l5 l6 f1 f4 f5 f6 n3 g36 g26 g46 hr ht
  refine (callsIn_wide (n := 3)).1 ?_
  refine callsIn_of_wp_marks Try.func13 rfl trivial ?_ rfl
  simp only [Try.ntmps13, List.size_toArray, List.length_cons, List.length_nil, Nat.reduceAdd, Nat.reduceSub, Array.replicate_succ, Array.replicate_zero, List.push_toArray, List.append_toArray, List.nil_append, List.cons_append]
  gi_wp2_with (refine ⟨trivial, ?_⟩; refine (callsIn_wide.2 (HOut.out _)).mono ?_; rintro e w' ⟨rfl, rfl⟩)
  generalize hW0 : ((((((w.alloc (.cells #[.int .i64 k, .string (tx nm), .bool f, .int .u64 u, .slice ap np cp, .slice ak nk ck, .slice ab nb cb, .slice aa na ca] 34)).alloc (.cells #[.slice none 0 0] 22)).alloc (.map #[] 0)).alloc (.cells #[.map (some (w.heap.size + 1 + 1))] 52)).alloc (.cells #[.slice a0 ps.length c0] 22)).alloc (.cells #[.int .i64 k, .string (tx nm), .bool f, .int .u64 u, .slice ap np cp, .slice ak nk ck, .slice ab nb cb, .slice aa na ca] 34)) = W0 at *
  clear hW0
  have hz := HZ.out
  obtain ⟨i0, hi0, hz0, hzs, hzb⟩ := info_parts Try.info_text
  have hmix : Try.prog.follows .mixedOrders = true := by kernel_rfl
  refine range_told (w := W0) (gf := 29) (lb := #[.pointer (some ⟨w.heap.size + 1 + 1 + 1 + 1, 0, none⟩), .pointer (some ⟨w.heap.size + 1 + 1 + 1 + 1 + 1, 0, none⟩)]) rfl (enters_of Try.func29 (by kernel_rfl) rfl) (fun g => g < w.heap.size) (fun g hg => by omega) (fun r pre W => ToldV w.heap.size w r pre W) ?lies ?keep ?h0
    (fun y => { tmps := #[.slice a0 ps.length c0, .agg #[.int .i64 k, .string (tx nm), .bool f, .int .u64 u, .slice ap np cp, .slice ak nk ck, .slice ab nb cb, .slice aa na ca], undef, .pointer (some ⟨w.heap.size, 0, none⟩), .slice none 0 0, .pointer (some ⟨w.heap.size + 1, 0, none⟩), .pointer (some ⟨w.heap.size + 1 + 1 + 1, 0, none⟩), .string (tx y), .map (some (w.heap.size + 1 + 1)), .slice a0 ps.length c0, .agg #[.int .i64 k, .string (tx nm), .bool f, .int .u64 u, .slice ap np cp, .slice ak nk ck, .slice ab nb cb, .slice aa na ca], .func (.func 29) #[] #[.pointer (some ⟨w.heap.size + 1 + 1 + 1 + 1, 0, none⟩), .pointer (some ⟨w.heap.size + 1 + 1 + 1 + 1 + 1, 0, none⟩)], .string (tx y), undef, undef, undef, undef, undef, undef, undef, undef, undef, undef, undef, undef], defers := [] }) ?assign ?body (outE ps x) ?iter ?done
  case lies =>
    intro r pre W h
    rw [hz]
    exact h.lies
  case keep =>
    intro r pre W W' h h1 h2 h3 h4 h5
    rw [hz] at h5
    exact h.keep h1 h2 h3 h4 h5
  case h0 =>
    intro o o'
    have hb := ((Below.refl W0.heap.size W0).alloc Nr o).alloc (by simp) o'
    exact ⟨onB' HW.out.1 hb, by simp; omega, (World.cell?_of_block (w := W0) (hb.block (w.heap.size + 3) (by omega))).trans (by simp [World.cell?, HW.out.2.2.1]), HW.out.2.2.2.1.later hb, _, ⟨(World.cell?_of_block (w := W0) (hb.block (w.heap.size + 1) (by omega))).trans (by simp [World.cell?, HW.out.2.1]), (World.frozen?_of_block (w := W0) (hb.block (w.heap.size + 1) (by omega))).trans (by simp [World.frozen?, HW.out.2.1])⟩, World.ownsRow_nil _ _ _ _, rfl⟩
  case assign =>
    intro n l y W K hK
    gi_wp2
    exact hK
  case body =>
    intro n l r pre y W hI hyl hpl
    obtain ⟨v, hf, ho, hrv⟩ := hI.free
    obtain ⟨av, cv, rfl, hlow⟩ := own_shape ho
    have c3 : W.cell? ⟨w.heap.size + 1 + 1 + 1, 0, none⟩ = some (.map (some (w.heap.size + 1 + 1))) := hI.told
    have hlk : (Instr.lookup 52 (.map (some (w.heap.size + 1 + 1))) (.string (tx y)) false).run Try.prog W = .ok (.bool (decide (y ∈ dedup [] pre))) W := hI.set.lookm y hyl
    have hds := dedup_snoc [] pre y
    by_cases g : y ∈ dedup [] pre
    · rw [decide_eq_true g] at hlk
      rw [if_pos g] at hds
      have H : ToldV w.heap.size w r (pre ++ [y]) W := by
        refine ⟨hI.below, hI.size, hI.told, ?_, ?_⟩
        · rw [hds]
          obtain ⟨D, n1, n2⟩ := hI.set
          exact ⟨D, n1.mono (by simp), n2⟩
        · rw [hds]; exact ⟨_, hf, ho, hrv⟩
      clear hI hf ho hrv hds
      gi_wp2_with fail
      exact ⟨KeepsFrom.refl _ _, r, H, Step.below Br⟩
    · rw [decide_eq_false g] at hlk
      rw [if_neg g] at hds
      have hsx : (tx y).size ≤ 140737488355328 := by
        have : (tx y).size = y.length := by simp [tx, ByteArray.size]
        omega
      have HC := Hd (fun W => clone_any (tx y) (by omega) W)
      have HQ := Hd (Ai hI (Ai hf (Ai ho (Ai hrv (Ai hds hlow)))))
      clear hI hf ho hrv hds hlow
      gi_wp2_with (gi_at_mapUpdate; refine wpListIn_mput _ rfl _ _ _ rfl (w.heap.size + 1 + 1) pre.length (dedup [] pre) rfl HQ.out.1.set (by omega) y rfl rfl hyl ?_; intro w4 h4 g4)
      have hsz := HQ.out.1.size
      have hs4 := g4.size
      have cf : w4.cell? ⟨w.heap.size + 1, 0, none⟩ = some (.slice av (dedup [] pre).length cv) := (World.cell?_of_block (w := W) (g4.block (w.heap.size + 1) (by omega) (by simp))).trans HQ.out.2.1.1
      have cz : w4.frozen? ⟨w.heap.size + 1, 0, none⟩ = false := (World.frozen?_of_block (w := W) (g4.block (w.heap.size + 1) (by omega) (by simp))).trans HQ.out.2.1.2
      have hlen : (dedup [] pre).length ≤ 100000 := by have := dedup_len pre []; simp at this; omega
      have one1 : ∀ u ∈ [Value.string (tx y)], u.oneCell' = true := by intro u hu; simp at hu; rw [hu]; rfl
      have m9 : (dedup [] pre).length + 1 ≤ maxLen := by unfold maxLen; omega
      have m8 : ((dedup [] pre).length + 1) * 16 ≤ 140737488355328 := by omega
      have ho4 : w4.ownsRow (w.heap.size + 8) 9 1 (.slice av (dedup [] pre).length cv) (dedup [] pre).length (namesV (dedup [] pre)) := HQ.out.2.2.1.kept g4 (Or.inr fun e => by have := HQ.out.2.2.2.2.2 _ e; omega)
      have HAp := Hd (fun (w5 : World) (hb5 : Below w4.heap.size w4 w5) => run_append_lies (P := Try.prog) (w5.alloc (.cells #[.string (tx y)] 9)) 22 22 (w.heap.size + 8) 9 i0 (.string ⟨#[]⟩) 1 16 Try.underlying22 hi0 hz0 hzs hzb rfl (by decide) (.slice av (dedup [] pre).length cv) (dedup [] pre).length (namesV (dedup [] pre)) (own_below (own_below ho4 hb5) ((Below.refl w5.heap.size w5).alloc Nr _)) ⟨w5.heap.size, 0, none⟩ 1 1 [.string (tx y)] rfl (World.news_of_block (heap_alloc_new _ _)) one1 (by decide) m9 m8 (by have := hb5.size; simp; omega) _ rfl)
      have H4 := Hd (Ai h4 g4)
      have hlow := HQ.out.2.2.2.2.2
      generalize hdd : (dedup [] pre).length = L at *
      have HLn := Hd hdd
      clear h4 g4 ho4 m9 m8 one1 hdd
      gi_region_with_o (first
        | (show Fence.wide.fn 21 ∧ (_ → 1 ≤ n) ∧ CallsIn _ _ _ 21 _ _ _; refine ⟨trivial, fun h => (by cases h), ?_⟩; refine (CallsIn.inRound l (callsIn_wide.2 (HC.out _))).mono ?_; rintro e w5 ⟨rfl, hb5'⟩
           have hb5 : Below w4.heap.size w4 w5 := onB' ((Below.refl _ w4).drew) hb5'
           have cf5 := later' hb5 cf
           obtain ⟨g9, cap9, w9, hrun, o1, o2, o3, o4⟩ := HAp.out w5 hb5
           have hs5 := hb5.size
           have hx6 := (Below.refl w5.heap.size w5).alloc Nr (.cells #[.string (tx y)] 9)
           have cf6 := later' hx6 cf5
           have k9 : w9.heap[w.heap.size + 1]? = w4.heap[w.heap.size + 1]? := (o2.block _ (by simp; omega) (fun e => by have := hlow _ e.symm; omega)).trans ((hx6.block _ (by omega)).trans (hb5.block _ (by omega)))
           have cf9 : w9.cell? ⟨w.heap.size + 1, 0, none⟩ = some (.slice av L cv) := (World.cell?_of_block (w := w4) k9).trans cf
           have cz9 : w9.frozen? ⟨w.heap.size + 1, 0, none⟩ = false := (World.frozen?_of_block (w := w4) k9).trans cz))
      all_goals gi_wp2_with fail
      all_goals exact told_more HLn.out hz HQ.out.1 HQ.out.2.2.1 HQ.out.2.2.2.1 HQ.out.2.2.2.2.1 H4.out.1 H4.out.2 hb5 o1 o2 o3 cf9 cz9
  case iter =>
    intro J W1 T hs1 hb1 hj0
    rw [← hs1] at T
    exact outside_walk W1 T ps x hq hx hn _ _ a0 c0 k nm f u ap np cp ak nk ck ab nb cb aa na ca hj0
      ((World.cell?_of_block (w := W0) (hb1.block (w.heap.size + 4) (by omega))).trans (by simp [World.cell?, HW.out.2.2.2.2.1])) (HW.out.2.2.2.2.2.below hb1) (HI.out.1.move fun g hk lt => ⟨hk, hb1.block g lt⟩) (HI.out.2.move fun g hk lt => ⟨hk, hb1.block g lt⟩)
  case done =>
    intro r W hI hK
    obtain ⟨v, hf, ho, hrv⟩ := hI.free
    have cf : W.cell? ⟨w.heap.size + 1, 0, none⟩ = some v := hf.1
    have HQ := Hd (Ai ho hI)
    clear ho hI hrv
    gi_wp2_with fail
    refine ⟨by simp, .inl ⟨_, _, rfl, run_takeDeferred hK, ?_⟩⟩
    have hne : ∀ g, v.ownBlock = some g → g ≠ W0.heap.size := fun g hg e => by
      obtain ⟨h0, ⟨e1, e2⟩ | ⟨g', cap, cur, e1, e2, e3, e4⟩⟩ := HQ.out.1
      · rw [e1] at hg; cases hg
      · rw [e1] at hg
        have : g' = g := Oi hg
        subst this
        rw [e, hK] at e3
        cases e3
    have hb := HQ.out.2.below
    refine ⟨_, results_tmp rfl _ _ _, ⟨v, rfl, ?_⟩, ⟨hb.os, hb.tape, hb.output, by simpa [World.putObj] using hb.size, fun k hk => (World.putObj_heap_other (by omega)).trans (hb.block k hk)⟩⟩
    obtain ⟨h0, ⟨e1, e2⟩ | ⟨g', cap, cur, e1, e2, e3, e4⟩⟩ := HQ.out.1
    · exact ⟨h0, Or.inl ⟨e1, e2⟩⟩
    · exact ⟨h0, Or.inr ⟨g', cap, cur, e1, by omega, (World.putObj_heap_other (hne g' (by rw [e1]; rfl))).trans e3, e4⟩⟩
end Go.Proofs.Ytdjcdecbmeickaa
namespace Go.Proofs.Ytdjcdecbmeickaa
set_option maxHeartbeats 64000000
set_option maxRecDepth 100000
open Go.RowKit Go.Lib
theorem row_none (w : World) (K : Nat → Prop) (e : TypeId) (size : Nat) : RowAt w K e size (.slice none 0 0) 0 [] := ⟨by simp, Or.inl ⟨rfl, rfl⟩⟩
theorem vfree_said (x : Ex) (hx : wvE x) (hn : wtE x ≤ 100000) (k : Int) (nm : Nm) (f : Bool) (u : Int) (ap : Option Addr) (np cp : Nat) (ak : Option Addr) (nk ck : Nat) (ab : Option Addr) (nb cb : Nat) (aa : Option Addr) (na ca : Nat) (K : Nat → Prop) (w : World)
    (ht : ExAt w K x [.int .i64 k, .string (tx nm), .bool f, .int .u64 u, .slice ap np cp, .slice ak nk ck, .slice ab nb cb, .slice aa na ca]) :
    Calls Try.prog 11 #[.agg #[.int .i64 k, .string (tx nm), .bool f, .int .u64 u, .slice ap np cp, .slice ak nk ck, .slice ab nb cb, .slice aa na ca]] w fun e w' => (∃ v, e = .returned v ∧ w'.ownsRow w.heap.size 9 1 v (bodyL [] x).length (namesV (bodyL [] x))) ∧ Below w.heap.size w w' := by
  have hx1 := (Below.refl w.heap.size w).alloc Nr (.cells #[.int .i64 k, .string (tx nm), .bool f, .int .u64 u, .slice ap np cp, .slice ak nk ck, .slice ab nb cb, .slice aa na ca] 34)
  have HB := Hd (vbody_said [] x (fun y hy => by cases hy) hx (by simpa using hn) none 0 k nm f u ap np cp ak nk ck ab nb cb aa na ca (fun _ => True) K (w.alloc (.cells #[.int .i64 k, .string (tx nm), .bool f, .int .u64 u, .slice ap np cp, .slice ak nk ck, .slice ab nb cb, .slice aa na ca] 34)) (row_none _ _ _ _) (ht.move fun g hk lt => ⟨hk, hx1.block g lt⟩))
  have HX := Hd hx1
  clear hx1 ht
  go_enter Try.func11, Try.ntmps11
  go_wp2_with fail
  refine HB.out.mono ?_
  rintro e w2 ⟨⟨v, rfl, ho⟩, hb⟩
  have H := Hd (Ai (World.ownsRow.mono ho HX.out.size) (onB' HX.out hb))
  clear ho hb HB
  go_wp2_with fail
  go_ret
  exact ⟨⟨v, rfl, H.out.1⟩, H.out.2⟩
theorem wo_one (l s : List Nm) (x : Nm) : wo (l ++ [x]) s = if x ∈ s then wo l s else wo l s ++ [x] := by
  rw [wo_app]
  by_cases g : x ∈ s
  · rw [if_pos g]; simp [wo, g]
  · rw [if_neg g]; simp [wo, g]
theorem wo_len (l s : List Nm) : (wo l s).length ≤ l.length := by unfold wo; exact List.length_filter_le _ _
theorem without_any (l q : List Nm) (hn : l.length ≤ 1000000) (a1 : Option Addr) (c1 : Nat) (a2 : Option Addr) (c2 : Nat) (K1 K2 : Nat → Prop) (w : World) (h1 : RowAt w K1 9 1 (.slice a1 l.length c1) l.length (namesV l)) (h2 : RowAt w K2 9 1 (.slice a2 q.length c2) q.length (namesV q)) :
    Calls Try.prog 19 #[.slice a1 l.length c1, .slice a2 q.length c2] w fun e w' => (∃ v, e = .returned v ∧ w'.ownsRow w.heap.size 9 1 v (wo l q).length (namesV (wo l q))) ∧ Below w.heap.size w w' := by
  have HO := Hd (Ai h1 (h2.low (Below.refl _ w)))
  obtain ⟨i0, hi0, hz0, hzs, hzb⟩ := info_parts Try.info_text
  have hmx := h1.cap
  unfold maxLen at hmx
  clear h1 h2
  go_enter Try.func19, Try.ntmps19
  go_wp2_with fail
  go_loopw [5, 6] (fun s2 s3 wr => ∃ (j : Nat) (vv : Value), j ≤ l.length ∧ vv = s2 ∧ s3 = .int .i64 j ∧ wr.ownsRow w.heap.size 9 1 vv (wo (l.take j) q).length (namesV (wo (l.take j) q)) ∧ Below w.heap.size w wr) (fun _ s3 _ => l.length - (RowKit.intOf s3).toNat)
  case atStart => exact ⟨0, _, Nat.zero_le _, rfl, rfl, by rw [List.take_zero]; exact World.ownsRow_nil _ _ _ _, Below.refl _ _⟩
  case round =>
    obtain ⟨j, vv, hj, rfl, rfl, hown, hbr⟩ := hrel
    obtain ⟨av, cc, rfl, hlow⟩ := own_shape hown
    have hln := wo_len (l.take j) q
    rw [List.length_take] at hln
    have HR := Hd (Ai hown (Ai hbr hlow))
    clear hown hbr hlow
    by_cases gj : j < l.length
    · have gj' : (j : Int) < (l.length : Int) := by omega
      obtain ⟨g1, o1, ea1, k1, m1', -, ht1⟩ := HO.out.1.at (by omega)
      subst ea1
      have p0 := later' HR.out.2.1 (ht1 j _ (namesV_get gj))
      have HT := Hd (show wo (l.take (j + 1)) q = if l[j] ∈ q then wo (l.take j) q else wo (l.take j) q ++ [l[j]] by rw [← wo_one, List.take_succ_eq_append_getElem gj])
      clear ht1
      generalize l[j] = tk at *
      have ej : IntKind.i64.wrap ((j : Int) + 1) = (j : Int) + 1 := by rw [IntKind.wrap_i64]; omega
      have b0 : (0 : Int) ≤ (j : Int) := by omega
      have HI := Hd (in_any q tk a2 c2 (fun g => g < w.heap.size) wr (HO.out.2.move fun g hk lt => ⟨hk, HR.out.2.1.block g lt⟩))
      go_wp2_with fail
      refine HI.out.mono ?_
      rintro e w2 ⟨rfl, hb2⟩
      have HB := Hd (Ai (onB' HR.out.2.1 hb2) (own_below HR.out.1 hb2))
      have p1 := later' hb2 p0
      have hz2 := hb2.size
      have hzw := HR.out.2.1.size
      clear hb2 HI p0
      by_cases g : tk ∈ q
      · rw [decide_eq_true g]
        have HG := Hd g
        clear g
        go_wp2_with fail
        refine ⟨⟨j + 1, _, by omega, rfl, by go_num, ?_, HB.out.1⟩, by simp [RowKit.intOf]; omega⟩
        rw [HT.out, if_pos HG.out]
        exact HB.out.2
      · rw [decide_eq_false g]
        have HG := Hd g
        clear g
        have one1 : ∀ u ∈ [Value.string (tx tk)], u.oneCell' = true := by intro u hu; simp at hu; rw [hu]; rfl
        have m9 : (wo (l.take j) q).length + 1 ≤ maxLen := by unfold maxLen; omega
        have m8 : ((wo (l.take j) q).length + 1) * 16 ≤ 140737488355328 := by omega
        have H5 := Hd ((Below.refl w2.heap.size w2).alloc Nr (.cells #[.string (tx tk)] 9))
        have hz5 := H5.out.size
        have HO5 := Hd (own_below HB.out.2 H5.out)
        generalize hdd : (wo (l.take j) q).length = N at *
        have HN := Hd hdd
        clear hdd
        go_wp2_with (at_builtin; refine wpList_append_lies _ rfl _ _ 22 rfl w.heap.size 9 i0 (.string ⟨#[]⟩) 1 16 Try.underlying22 hi0 hz0 hzs hzb rfl (by decide) (.slice av N cc) N (namesV (wo (l.take j) q)) rfl HO5.out ⟨w2.heap.size, 0, none⟩ 1 1 [.string (tx tk)] rfl rfl (World.news_of_block (heap_alloc_new _ _)) one1 (by decide) m9 m8 (by omega) _ rfl ?_; intro g9 cap9 w9 o1 o2 o3 o4)
        refine ⟨⟨j + 1, _, by omega, rfl, by go_num, ?_, ?_⟩, by simp [RowKit.intOf]; omega⟩
        · rw [HT.out, if_neg HG.out, List.length_append, HN.out]
          simpa [namesV] using o1
        · have hx := onB' HB.out.1 H5.out
          exact ⟨o2.os.trans hx.os, o2.tape.trans hx.tape, o2.output.trans hx.output, Nt hx.size o2.size, fun k hk => (o2.block k (by have := hx.size; omega) (fun e => by have := HR.out.2.2 k e.symm; omega)).trans (hx.block k hk)⟩
    · obtain rfl : j = l.length := by omega
      go_wp2_with fail
      go_ret
      refine ⟨⟨.slice av (wo (l.take l.length) q).length cc, rfl, ?_⟩, HR.out.2.1⟩
      have h := HR.out.1
      rwa [List.take_length] at h ⊢
theorem djoin_any (q l : List Nm) (hn : q.length + l.length ≤ 100000) (a2 : Option Addr) (c2 : Nat) (a1 : Option Addr) (c1 : Nat) (K2 K1 : Nat → Prop) (w : World) (h2 : RowAt w K2 9 1 (.slice a2 q.length c2) q.length (namesV q)) (h1 : RowAt w K1 9 1 (.slice a1 l.length c1) l.length (namesV l)) :
    Calls Try.prog 18 #[.slice a2 q.length c2, .slice a1 l.length c1] w fun e w' => (∃ v, e = .returned v ∧ w'.ownsRow w.heap.size 9 1 v (dedup q l).length (namesV (dedup q l))) ∧ Below w.heap.size w w' := by
  have ba := (Below.refl w.heap.size w).alloc Nr (.cells #[] 9)
  have HA : (w.alloc (.cells #[] 9)).ownsRow w.heap.size 9 1 (.slice (some ⟨w.heap.size, 0, none⟩) 0 0) 0 [] := ⟨by simp, Or.inr ⟨w.heap.size, 0, #[], rfl, Nat.le_refl _, heap_alloc_new _ _, Nat.le_refl _, Nat.zero_le _, rfl, rfl⟩⟩
  have HB : RowAt (w.alloc (.cells #[] 9)) (fun _ => True) 9 1 (.slice a2 q.length c2) q.length (namesV q) := h2.move (fun g _ lt => ⟨trivial, ba.block g lt⟩)
  have b1 : ∀ {ao cap w1}, Onto (w.alloc (.cells #[] 9)) w.heap.size 9 1 (.slice (some ⟨w.heap.size, 0, none⟩) 0 0) q.length (namesV q) ao cap w1 → Below w.heap.size w w1 := fun h =>
    ⟨h.2.1.os.trans ba.os, h.2.1.tape.trans ba.tape, h.2.1.output.trans ba.output, Nt ba.size h.2.1.size, fun k hk => (h.2.1.block k (by have := ba.size; omega) (fun e => by have e' : k = w.heap.size := Oi e; omega)).trans (ba.block k hk)⟩
  have HD := Hd (Ai HA HB)
  have HE := Hd ba.size
  have HO := Hd (h1.low (Below.refl _ w))
  obtain ⟨i0, hi0, hz0, hzs, hzb⟩ := info_parts Try.info_text
  have hmx := h1.cap
  unfold maxLen at hmx
  clear h1 h2 HA HB ba
  go_enter Try.func18, Try.ntmps18
  go_wp2_with (at_builtin; refine list_onto_str rfl _ _ rfl _ w.heap.size 0 (.slice (some ⟨w.heap.size, 0, none⟩) 0 0) [] rfl HD.out.1 (fun _ => True) q.length (namesV q) (.slice a2 q.length c2) rfl HD.out.2 namesV_one (by omega) HE.out ?_; intro ao cap w1 O1; rw [Nat.zero_add, List.nil_append] at O1)
  have H1 := Hd (Ai O1.1 (b1 O1))
  clear O1 b1 HD HE
  go_loopw [5, 6] (fun s2 s3 wr => ∃ (j : Nat) (vv : Value), j ≤ l.length ∧ vv = s2 ∧ s3 = .int .i64 j ∧ wr.ownsRow w.heap.size 9 1 vv (dedup q (l.take j)).length (namesV (dedup q (l.take j))) ∧ Below w.heap.size w wr) (fun _ s3 _ => l.length - (RowKit.intOf s3).toNat)
  case atStart => exact ⟨0, _, Nat.zero_le _, rfl, rfl, by rw [List.take_zero]; exact H1.out.1, H1.out.2⟩
  case round =>
    obtain ⟨j, vv, hj, rfl, rfl, hown, hbr⟩ := hrel
    obtain ⟨av, cc, rfl, hlow⟩ := own_shape hown
    have hln := dedup_len (l.take j) q
    rw [List.length_take] at hln
    have HR := Hd (Ai hown (Ai hbr hlow))
    clear hown hbr hlow
    by_cases gj : j < l.length
    · have gj' : (j : Int) < (l.length : Int) := by omega
      obtain ⟨g1, o1, ea1, k1, m1', -, ht1⟩ := HO.out.at (by omega)
      subst ea1
      have p0 := later' HR.out.2.1 (ht1 j _ (namesV_get gj))
      have HT := Hd (show dedup q (l.take (j + 1)) = if l[j] ∈ dedup q (l.take j) then dedup q (l.take j) else dedup q (l.take j) ++ [l[j]] by rw [← dedup_snoc, List.take_succ_eq_append_getElem gj])
      clear ht1
      generalize l[j] = tk at *
      have ej : IntKind.i64.wrap ((j : Int) + 1) = (j : Int) + 1 := by rw [IntKind.wrap_i64]; omega
      have b0 : (0 : Int) ≤ (j : Int) := by omega
      have HI := Hd (in_any (dedup q (l.take j)) tk av cc (fun _ => True) wr (RowAt.of HR.out.1 (fun _ _ => trivial)))
      go_wp2_with fail
      refine HI.out.mono ?_
      rintro e w2 ⟨rfl, hb2⟩
      have HB := Hd (Ai (onB' HR.out.2.1 hb2) (own_below HR.out.1 hb2))
      have p1 := later' hb2 p0
      have hz2 := hb2.size
      have hzw := HR.out.2.1.size
      clear hb2 HI p0
      by_cases g : tk ∈ dedup q (l.take j)
      · rw [decide_eq_true g]
        have HG := Hd g
        clear g
        go_wp2_with fail
        refine ⟨⟨j + 1, _, by omega, rfl, by go_num, ?_, HB.out.1⟩, by simp [RowKit.intOf]; omega⟩
        rw [HT.out, if_pos HG.out]
        exact HB.out.2
      · rw [decide_eq_false g]
        have HG := Hd g
        clear g
        have one1 : ∀ u ∈ [Value.string (tx tk)], u.oneCell' = true := by intro u hu; simp at hu; rw [hu]; rfl
        have m9 : (dedup q (l.take j)).length + 1 ≤ maxLen := by unfold maxLen; omega
        have m8 : ((dedup q (l.take j)).length + 1) * 16 ≤ 140737488355328 := by omega
        have H5 := Hd ((Below.refl w2.heap.size w2).alloc Nr (.cells #[.string (tx tk)] 9))
        have hz5 := H5.out.size
        have HO5 := Hd (own_below HB.out.2 H5.out)
        generalize hdd : (dedup q (l.take j)).length = N at *
        have HN := Hd hdd
        clear hdd
        go_wp2_with (at_builtin; refine wpList_append_lies _ rfl _ _ 22 rfl w.heap.size 9 i0 (.string ⟨#[]⟩) 1 16 Try.underlying22 hi0 hz0 hzs hzb rfl (by decide) (.slice av N cc) N (namesV (dedup q (l.take j))) rfl HO5.out ⟨w2.heap.size, 0, none⟩ 1 1 [.string (tx tk)] rfl rfl (World.news_of_block (heap_alloc_new _ _)) one1 (by decide) m9 m8 (by omega) _ rfl ?_; intro g9 cap9 w9 o1 o2 o3 o4)
        refine ⟨⟨j + 1, _, by omega, rfl, by go_num, ?_, ?_⟩, by simp [RowKit.intOf]; omega⟩
        · rw [HT.out, if_neg HG.out, List.length_append, HN.out]
          simpa [namesV] using o1
        · have hx := onB' HB.out.1 H5.out
          exact ⟨o2.os.trans hx.os, o2.tape.trans hx.tape, o2.output.trans hx.output, Nt hx.size o2.size, fun k hk => (o2.block k (by have := hx.size; omega) (fun e => by have := HR.out.2.2 k e.symm; omega)).trans (hx.block k hk)⟩
    · obtain rfl : j = l.length := by omega
      go_wp2_with fail
      go_ret
      refine ⟨⟨.slice av (dedup q (l.take l.length)).length cc, rfl, ?_⟩, HR.out.2.1⟩
      have h := HR.out.1
      rwa [List.take_length] at h ⊢
theorem own_lt {w : World} {base : Nat} {e : TypeId} {size : Nat} {v : Value} {n : Nat} {xs : List Value} (h : w.ownsRow base e size v n xs) : ∀ g, v.ownBlock = some g → g < w.heap.size := fun g hg => (h.lt g hg).2
theorem own_row {w w' : World} {base : Nat} {e : TypeId} {size : Nat} {v : Value} {n : Nat} {xs : List Value} (h : w.ownsRow base e size v n xs) (hb : Below w.heap.size w w') : RowAt w' (fun _ => True) e size v n xs := RowAt.of (own_below h hb) (fun _ _ => trivial)
structure ModAt (W : World) (K : Nat → Prop) (m : Md) (ac : Option Addr) (cc : Nat) (ab : Option Addr) (cb : Nat) : Prop where
  dr : RowAt W K 66 2 (.slice ac m.1.length cc) m.1.length (declV m.1)
  br : ∃ xb, RowAt W K 36 10 (.slice ab m.2.length cb) m.2.length xb ∧ BndsAt W K m.2 xb
theorem ModAt.below {W W' : World} {K : Nat → Prop} {m : Md} {ac : Option Addr} {cc : Nat} {ab : Option Addr} {cb : Nat} (h : ModAt W K m ac cc ab cb) (hb : Below W.heap.size W W') : ModAt W' K m ac cc ab cb := by
  obtain ⟨xb, h1, h2⟩ := h.br
  exact ⟨h.dr.move fun g hk lt => ⟨hk, hb.block g lt⟩, xb, h1.move fun g hk lt => ⟨hk, hb.block g lt⟩, h2.move fun g hk lt => ⟨hk, hb.block g lt⟩⟩
structure MdOk (m : Md) : Prop where
  wd : ∀ d, d ∈ m.1 → NmOk d.1
  wb : ∀ b, b ∈ m.2 → wB b
  wt : 10 + m.1.length + (m.2.length + sumN nB m.2) ≤ 100000
end Go.Proofs.Ytdjcdecbmeickaa
namespace Go.Proofs.Ytdjcdecbmeickaa
set_option maxHeartbeats 64000000
set_option maxRecDepth 100000
open Go.RowKit Go.Lib Go.Extern.Stop Go.Stop Go.Extern
end Go.Proofs.Ytdjcdecbmeickaa
namespace Go.Proofs.Ytdjcdecbmeickaa
set_option maxHeartbeats 64000000
set_option maxRecDepth 100000
open Go.RowKit Go.Lib
theorem run_nil_alt (ty : TypeId) (v : Value) (base n : Nat) (xs : List Value) (c : Nat) (w : World) (h : w.ownsRow base 51 13 v n xs) :
    (Builtin.append_ #[32, 32] ty #[v, .slice none 0 c]).run Try.prog w = .ok v w := by
  have hu : Try.prog.underlying 32 = some (.slice 51) := Try.underlying32
  rcases h.2 with ⟨rfl, rfl⟩ | ⟨g, cap, cur, rfl, _, _, hcap, _⟩
  · simp [Builtin.append_, run_underlying hu, Try.sizeOf51, Builtin.firstCells, Builtin.lenOf, go_sem]
  · simp [Builtin.append_, run_underlying hu, Try.sizeOf51, Builtin.firstCells, Builtin.lenOf, go_sem, hcap]
theorem run_onto_alt (ty : TypeId) (w : World) (base n : Nat) (v : Value) (xs : List Value) (hown : w.ownsRow base 51 13 v n xs) (b2 m : Nat) (ys : List Value) (x : Value) (hx : w.ownsRow b2 51 13 x m ys) (h1 : ∀ u ∈ ys, u.oneCell' = true) (hb : n + m ≤ 100000) (hbase : base ≤ w.heap.size) :
    ∃ ao cap w', (Builtin.append_ #[32, 32] ty #[v, x]).run Try.prog w = .ok (.slice ao (n + m) cap) w' ∧ Onto w base 51 13 v (n + m) (xs ++ ys) ao cap w' := by
  obtain ⟨i0, hi, hz0, hz1, hz2⟩ := info_parts Try.info_alt
  obtain ⟨hl, ⟨rfl, rfl⟩ | ⟨g, cap, cur, rfl, h2, h3, h4, h5, h6, h7⟩⟩ := id hx
  · have hy : ys = [] := List.length_eq_zero_iff.1 (by simpa using hl)
    subst hy
    obtain ⟨ao, cap, rfl, hlow⟩ := own_shape hown
    exact ⟨ao, cap, w, run_nil_alt ty _ base n xs 0 w hown, by simpa using hown, ⟨rfl, rfl, rfl, Nat.le_refl _, fun _ _ _ => rfl⟩, Or.inl rfl⟩
  · obtain ⟨v', w', hr, q2, q3, _, q5⟩ := run_append_own_at (P := Try.prog) w base 32 ty 51 i0 (.agg #[.int .i64 0, .string ⟨#[]⟩, .bool false, .int .u64 0, .slice none 0 0, .int .i64 0, .string ⟨#[]⟩, .bool false, .int .u64 0, .slice none 0 0, .slice none 0 0, .slice none 0 0, .slice none 0 0]) 13 200 Try.underlying32 hi hz0 hz1 hz2 rfl (by decide) v n xs hown ⟨g, 0, none⟩ m cap ys hl (own_news hx) h1 (by unfold maxLen; omega) (by omega) hbase
    obtain ⟨ao, c2, rfl, hlow⟩ := own_shape q2
    exact ⟨ao, c2, w', hr, q2, q3, q5⟩
theorem wp_onto_alt {o : Oper} {a : Act} {K : Act → World → Prop} {Q : Exit → Act → World → Prop} (s x : Operand) (ho : o.op = .call { callee := .builtin .append, args := #[s, x], argTypes := #[32, 32] })
    (w : World) (base n : Nat) (v : Value) (xs : List Value) (hs : a.eval s = v) (hown : w.ownsRow base 51 13 v n xs) (b2 m : Nat) (ys : List Value) (xv : Value) (hx : a.eval x = xv) (hsrc : w.ownsRow b2 51 13 xv m ys) (h1 : ∀ u ∈ ys, u.oneCell' = true) (hb : n + m ≤ 100000) (hbase : base ≤ w.heap.size)
    (h : ∀ ao cap w', Onto w base 51 13 v (n + m) (xs ++ ys) ao cap w' → K (a.put o.dst (.slice ao (n + m) cap)) w') : o.wp Try.prog a w K Q := by
  obtain ⟨ao, cap, w', hr, h2⟩ := run_onto_alt o.type w base n v xs hown b2 m ys xv hsrc h1 hb hbase
  unfold Oper.wp execOp
  simp only [ho, resolve, invoke, builtin, Sem.run_bind, Sem.run_pure, Result.andThen_ok, List.map_toArray, List.map_cons, List.map_nil, hs, hx, hr]
  exact h ao cap w' h2
theorem step_onto_alt {ops : Array Oper} {o : Oper} {a : Act} {K : Act → World → Prop} {Q : Exit → Act → World → Prop} {E : Prop} (hgd : o.guard = none) (s x : Operand) (ho : o.op = .call { callee := .builtin .append, args := #[s, x], argTypes := #[32, 32] })
    (w : World) (base n : Nat) (v : Value) (xs : List Value) (hs : a.eval s = v) (hown : w.ownsRow base 51 13 v n xs) (b2 m : Nat) (ys : List Value) (xv : Value) (hx : a.eval x = xv) (hsrc : w.ownsRow b2 51 13 xv m ys) (h1 : ∀ u ∈ ys, u.oneCell' = true) (hb : n + m ≤ 100000) (hbase : base ≤ w.heap.size)
    (h : ∀ ao cap w', Onto w base 51 13 v (n + m) (xs ++ ys) ao cap w' → K (a.put o.dst (.slice ao (n + m) cap)) w') :
    if Region.wanted o (yielded ops a.tmps) = true then Oper.wp Try.prog o a w K Q else E := by
  have hw : Region.wanted o (yielded ops a.tmps) = true := by simp [Region.wanted, hgd]
  rw [if_pos hw]
  exact wp_onto_alt s x ho w base n v xs hs hown b2 m ys xv hx hsrc h1 hb hbase h
end Go.Proofs.Ytdjcdecbmeickaa
