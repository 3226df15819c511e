import Derived.Laws.BytesString
import Derived.Test.YtdjcdecbmeickaaDoorMg21
import Derived.Test.YtdjcdecbmeickaaDoorMg22
namespace Go.Proofs.YtdjcdecbmeickaaDoor
set_option maxHeartbeats 64000000
set_option maxRecDepth 100000
open Go.RowKit Go.Lib
theorem conv_two (w : World) (a b : Int) : (convert 49 9 (.slice (some ⟨w.heap.size, 0, none⟩) 2 2)).run Tryd.prog (w.alloc (.cells #[.int .u8 a, .int .u8 b] 5)) = .ok (.string (tx [UInt8.ofNat a.toNat, UInt8.ofNat b.toNat])) (w.alloc (.cells #[.int .u8 a, .int .u8 b] 5)) := by
  rw [run_convert_bytes_string _ _ _ _ _ _ _ Tryd.underlying49 Tryd.underlying5 Tryd.underlying9]
  have h0 : (w.alloc (.cells #[.int .u8 a, .int .u8 b] 5)).cell? ⟨w.heap.size, 0, none⟩ = some (.int .u8 a) := (BoxW.alloc w #[.int .u8 a, .int .u8 b] 5).1 0 _ rfl
  have h1 : (w.alloc (.cells #[.int .u8 a, .int .u8 b] 5)).cell? ⟨w.heap.size, 1, none⟩ = some (.int .u8 b) := (BoxW.alloc w #[.int .u8 a, .int .u8 b] 5).1 1 _ rfl
  rw [run_bytesToString _ _ 2 2 [a, b] (by simp [loadCells, loadCellsFrom, h0, h1, go_sem])]
  rfl
theorem conv_one (w : World) (a : Int) : (convert 49 9 (.slice (some ⟨w.heap.size, 0, none⟩) 1 1)).run Tryd.prog (w.alloc (.cells #[.int .u8 a] 5)) = .ok (.string (tx [UInt8.ofNat a.toNat])) (w.alloc (.cells #[.int .u8 a] 5)) := by
  rw [run_convert_bytes_string _ _ _ _ _ _ _ Tryd.underlying49 Tryd.underlying5 Tryd.underlying9]
  have h0 : (w.alloc (.cells #[.int .u8 a] 5)).cell? ⟨w.heap.size, 0, none⟩ = some (.int .u8 a) := (BoxW.alloc w #[.int .u8 a] 5).1 0 _ rfl
  rw [run_bytesToString _ _ 1 1 [a] (by simp [loadCells, loadCellsFrom, h0, go_sem])]
  rfl
def numV : List Value := [.int .i64 3, .string ⟨#[]⟩, .bool false, .int .u64 0, .slice none 0 0, .slice none 0 0, .slice none 0 0, .slice none 0 0]
def kidsV : Nat → List Value
  | 0 => [.int .i64 1, .string ⟨#[102]⟩, .bool false, .int .u64 0, .slice none 0 0, .slice none 0 0, .slice none 0 0, .slice none 0 0]
  | j + 1 => kidsV j ++ numV
def boxA (kv : Value) : List Value := [.int .i64 4, .string ⟨#[]⟩, .bool false, .int .u64 0, .slice none 0 0, kv, .slice none 0 0, .slice none 0 0]
structure WdSt (W : World) (B jv jk : Nat) (vv kv : Value) : Prop where
  v : W.ownsRow (B + 2) 9 1 vv jv (namesV (nmsA jv))
  x : BoxW W (B + 1) (boxA kv)
  k : W.ownsRow B 46 8 kv (1 + jk) (kidsV jk)
  k1 : kv.ownBlock ≠ some (B + 1)
  k2 : ∀ g, vv.ownBlock = some g → kv.ownBlock ≠ some g
theorem grown_blk {W W' : World} {v : Value} (h : W.grownBy W' v.ownBlock) {k : Nat} (hk : k < W.heap.size) (hne : v.ownBlock ≠ some k) : W'.heap[k]? = W.heap[k]? := h.block k hk (fun e => hne e.symm)
theorem BoxW.same {W W' : World} {p : Nat} {cs : List Value} (h : BoxW W p cs) (_ : p < W.heap.size) (hk : W'.heap[p]? = W.heap[p]?) : BoxW W' p cs :=
  ⟨fun j v hj => (World.cell?_of_block (a := ⟨p, j, none⟩) hk).trans (h.1 j v hj), fun j => (World.frozen?_of_block (w := W) (a := ⟨p, j, none⟩) hk).trans (h.2 j)⟩
theorem boxA_lt {W : World} {p : Nat} {kv : Value} (h : BoxW W p (boxA kv)) : p < W.heap.size := Bl (h.1 0 _ rfl)
theorem below_own {w W W' : World} {v : Value} (h : Below w.heap.size w W) (hg : W.grownBy W' v.ownBlock) (hv : ∀ g, v.ownBlock = some g → w.heap.size ≤ g) : Below w.heap.size w W' :=
  ⟨hg.os.trans h.os, hg.tape.trans h.tape, hg.output.trans h.output, Nt h.size hg.size, fun k hk => (hg.block k (Nat.lt_of_lt_of_le hk h.size) (fun e => by have := hv k e.symm; omega)).trans (h.block k hk)⟩
theorem WdSt.below {W W' : World} {B jv jk : Nat} {vv kv : Value} (h : WdSt W B jv jk vv kv) (hb : Below W.heap.size W W') : WdSt W' B jv jk vv kv :=
  ⟨own_below h.v hb, h.x.same (boxA_lt h.x) (hb.block _ (boxA_lt h.x)), own_below h.k hb, h.k1, h.k2⟩
theorem WdSt.low {W : World} {B jv jk : Nat} {vv kv : Value} (h : WdSt W B jv jk vv kv) : (∀ g, vv.ownBlock = some g → B + 2 ≤ g) ∧ ∀ g, kv.ownBlock = some g → B ≤ g := by
  obtain ⟨_, _, _, h1⟩ := own_shape h.v
  obtain ⟨_, _, _, h2⟩ := own_shape h.k
  exact ⟨h1, h2⟩
theorem WdSt.names {W W' : World} {B j jk : Nat} {vv kv : Value} (h : WdSt W B j jk vv kv) {g cap : Nat} (o1 : W'.ownsRow (B + 2) 9 1 (.slice (some ⟨g, 0, none⟩) (j + 1) cap) (j + 1) (namesV (nmsA (j + 1)))) (o2 : W.grownBy W' vv.ownBlock) (o3 : vv.ownBlock = some g ∨ g = W.heap.size) : WdSt W' B (j + 1) jk (.slice (some ⟨g, 0, none⟩) (j + 1) cap) kv := by
  obtain ⟨lv, lk⟩ := h.low
  have hlt := boxA_lt h.x
  refine ⟨o1, h.x.same hlt (grown_blk o2 hlt fun e => by have := lv _ e; omega), own_same h.k fun g' hg => grown_blk o2 (h.k.lt g' hg).2 fun e => h.k2 _ e hg, h.k1, fun g' e => ?_⟩
  obtain rfl : g = g' := Oi e
  rcases o3 with e | e
  · exact h.k2 _ e
  · intro e2
    have := (h.k.lt _ e2).2
    omega
theorem WdSt.kids {W W' : World} {B jv j : Nat} {vv kv : Value} (h : WdSt W B jv j vv kv) {g cap : Nat} (p1 : W'.ownsRow B 46 8 (.slice (some ⟨g, 0, none⟩) (1 + j + 1) cap) (1 + j + 1) (kidsV (j + 1))) (p2 : W.grownBy W' kv.ownBlock) (p3 : kv.ownBlock = some g ∨ g = W.heap.size) :
    BoxW W' (B + 1) (boxA kv) ∧ WdSt (W'.setCell ⟨B + 1, 5, none⟩ (.slice (some ⟨g, 0, none⟩) (1 + j + 1) cap)) B jv (j + 1) vv (.slice (some ⟨g, 0, none⟩) (1 + j + 1) cap) := by
  obtain ⟨lv, lk⟩ := h.low
  have hlt := boxA_lt h.x
  have hx := h.x.same hlt (grown_blk p2 hlt h.k1)
  have hg1 : g ≠ B + 1 := by
    rcases p3 with e | e
    · exact fun q => h.k1 (by rw [e, q])
    · omega
  have hset : ∀ q : Nat, q ≠ B + 1 → (W'.setCell ⟨B + 1, 5, none⟩ (.slice (some ⟨g, 0, none⟩) (1 + j + 1) cap)).heap[q]? = W'.heap[q]? := fun q hq => Below.heap_setCell _ _ _ _ (fun e => hq e)
  refine ⟨hx, own_same (own_same h.v fun g' hg => grown_blk p2 (h.v.lt g' hg).2 (h.k2 _ hg)) fun g' hg => hset g' (by have := lv _ hg; omega), ?_, ?_, fun e => hg1 (Oi e), fun g' e => ?_⟩
  · have hs := hx.set 5 (by show 5 < 8; decide) (.slice (some ⟨g, 0, none⟩) (1 + j + 1) cap)
    exact hs
  · rw [show 1 + (j + 1) = 1 + j + 1 from rfl]
    exact own_same p1 fun g' hg => hset g' (by rw [← Oi hg]; exact hg1)
  · intro q
    obtain rfl : g = g' := Oi q
    rcases p3 with e2 | e2
    · exact h.k2 _ e e2
    · have := (h.v.lt _ e).2
      omega
theorem row_of {W : World} {B n size : Nat} {xs : Array Value} {e : TypeId} (h : W.heap[B]? = some (.cells xs e (0, 0))) (hx : xs.toList.length = n * size) (hn : n ≤ maxLen) : RowAt W (fun _ => True) e size (.slice (some ⟨B, 0, none⟩) n n) n xs.toList := by
  refine ⟨hx, Or.inr ⟨B, 0, n, _, rfl, trivial, h, Nat.le_refl _, hn, fun j v hj => ?_⟩⟩
  rw [Nat.zero_add, cell_of_row W B j _ _ (0, 0) h]
  simpa using hj
theorem nmsA_len (j : Nat) : (nmsA j).length = j := by unfold nmsA; simp
theorem kidsA_len (j : Nat) : (kidsA j).length = 1 + j := by unfold kidsA; simp; omega
theorem kids_at (W : World) (K : Nat → Prop) : ∀ j, ExsAt W K (kidsA j) (kidsV j)
  | 0 => ExsAt.cons _ [] _ [] (ExAt.leaf W K 1 [102]) .nil
  | j + 1 => by
    have h := (kids_at W K j).snoc (ExAt.num W K false 0)
    have e : kidsA (j + 1) = kidsA j ++ [.num false 0] := by unfold kidsA; rw [List.replicate_succ']; rfl
    rw [e]
    exact h
theorem one_at (W : World) (K : Nat → Prop) : ExAt W K oneX numV := ExAt.num W K false 0
theorem main_at (W : World) (K : Nat → Prop) : BndsAt W K [(mainL, [], oneX)] (.string (tx mainL) :: .slice none 0 0 :: numV ++ []) := .cons mainL [] oneX [] _ _ [] (RowAt.nil _ _ _ _) (one_at W K) .nil
def lamV (vp vk : Value) : List Value := [.int .i64 8, .string ⟨#[]⟩, .bool false, .int .u64 0, vp, vk, .slice none 0 0, .slice none 0 0]
def appV (vk : Value) : List Value := [.int .i64 4, .string ⟨#[]⟩, .bool false, .int .u64 0, .slice none 0 0, vk, .slice none 0 0, .slice none 0 0]
theorem lam_at {W : World} {K : Nat → Prop} {j : Nat} {vp vk : Value} (hp : RowAt W K 9 1 vp j (namesV (nmsA j))) (hk : RowAt W K 46 8 vk 1 numV) : ExAt W K (.mk 8 [] false 0 (nmsA j) [oneX] [] []) (lamV vp vk) :=
  .mk 8 [] false 0 (nmsA j) [oneX] [] [] vp vk _ _ (numV ++ []) [] [] (by rw [nmsA_len]; exact hp) hk (RowAt.nil _ _ _ _) (RowAt.nil _ _ _ _) (ExsAt.cons _ [] _ [] (one_at W K) .nil) .nil .nil
theorem app_at {W : World} {K : Nat → Prop} {j : Nat} {vk : Value} (hk : RowAt W K 46 8 vk (1 + j) (kidsV j)) : ExAt W K (.mk 4 [] false 0 [] (kidsA j) [] []) (appV vk) :=
  .mk 4 [] false 0 [] (kidsA j) [] [] _ vk _ _ (kidsV j) [] [] (RowAt.nil _ _ _ _) (by rw [kidsA_len]; exact hk) (RowAt.nil _ _ _ _) (RowAt.nil _ _ _ _) (kids_at W K j) .nil .nil
theorem modF_at {W : World} {B j : Nat} {vv : Value} (hn : RowAt W (fun _ => True) 9 1 vv j (namesV (nmsA j)))
    (h : W.heap[B]? = some (.cells (.string ⟨#[102]⟩ :: vv :: numV ++ (.string ⟨#[109, 97, 105, 110]⟩ :: .slice none 0 0 :: numV)).toArray 48 (0, 0))) : ModAt W (fun _ => True) (modF j) none 0 (some ⟨B, 0, none⟩) 2 :=
  ⟨RowAt.nil _ _ _ _, _, row_of h rfl (by show 2 ≤ maxLen; decide), .cons [102] (nmsA j) oneX [(mainL, [], oneX)] vv numV _ (by rw [nmsA_len]; exact hn) (one_at _ _) (main_at _ _)⟩
theorem modL_at' {W : World} {B j : Nat} {vp vk : Value} (hp : RowAt W (fun _ => True) 9 1 vp j (namesV (nmsA j))) (hk : RowAt W (fun _ => True) 46 8 vk 1 numV)
    (h : W.heap[B]? = some (.cells (.string ⟨#[102]⟩ :: .slice none 0 0 :: lamV vp vk ++ (.string ⟨#[109, 97, 105, 110]⟩ :: .slice none 0 0 :: numV)).toArray 48 (0, 0))) : ModAt W (fun _ => True) (modL' j) none 0 (some ⟨B, 0, none⟩) 2 :=
  ⟨RowAt.nil _ _ _ _, _, row_of h rfl (by show 2 ≤ maxLen; decide), .cons [102] [] _ [(mainL, [], oneX)] _ (lamV vp vk) _ (RowAt.nil _ _ _ _) (lam_at hp hk) (main_at _ _)⟩
theorem modG_at {W : World} {B j : Nat} {vk : Value} (hk : RowAt W (fun _ => True) 46 8 vk (1 + j) (kidsV j))
    (h : W.heap[B]? = some (.cells (.string ⟨#[102]⟩ :: .slice none 0 0 :: numV ++ (.string ⟨#[109, 97, 105, 110]⟩ :: .slice none 0 0 :: appV vk)).toArray 48 (0, 0))) : ModAt W (fun _ => True) (modG j) none 0 (some ⟨B, 0, none⟩) 2 :=
  ⟨RowAt.nil _ _ _ _, _, row_of h rfl (by show 2 ≤ maxLen; decide), .cons [102] [] oneX [(mainL, [], .mk 4 [] false 0 [] (kidsA j) [] [])] _ numV _ (RowAt.nil _ _ _ _) (one_at _ _) (.cons mainL [] _ [] _ (appV vk) [] (RowAt.nil _ _ _ _) (app_at hk) .nil)⟩
theorem none_fo {o : Fo} (h : o = none) : FoOk o := by rw [h]; exact fun _ _ h => by cases h
theorem awide_walk (n : Int) (lam : Bool) (w : World) (hE : ErrT w) :
    Calls Tryd.prog 7 #[.int .i64 n, .bool lam] w fun e w' => e = .returned (.bool true) ∧ Below w.heap.size w w' := by
  have HE0 := Hd hE
  clear hE
  go_enter Tryd.func7, Tryd.ntmps7
  go_wp2_with fail
  refine (aawake_any w HE0.out).mono ?_
  rintro e w1 ⟨rfl, hb⟩
  have H1 := Hd (Ai hb (HE0.out.below hb))
  clear hb
  by_cases g1 : n < 1
  · have f1 : decide (n < 1) = true := decide_eq_true g1
    go_wp2_with fail
    go_ret
    exact ⟨rfl, H1.out.1⟩
  have f1 : decide (n < 1) = false := decide_eq_false g1
  by_cases g2 : 60 < n
  · have f2 : decide ((60 : Int) < n) = true := decide_eq_true g2
    go_wp2_with fail
    go_ret
    exact ⟨rfl, H1.out.1⟩
  have f2 : decide ((60 : Int) < n) = false := decide_eq_false g2
  obtain ⟨i0, hi0, hz0, hzs, hzb⟩ := info_parts Tryd.info_text
  obtain ⟨i1, hi1, hy0, hys, hyb⟩ := info_parts Tryd.info_expr
  obtain ⟨m, rfl⟩ : ∃ m : Nat, n = (m : Int) := ⟨n.toNat, by omega⟩
  go_wp2_with fail
  generalize hW : ((w1.alloc (.cells #[.int .i64 1, .string ⟨#[102]⟩, .bool false, .int .u64 0, .slice none 0 0, .slice none 0 0, .slice none 0 0, .slice none 0 0] 46)).alloc (.cells #[.int .i64 4, .string ⟨#[]⟩, .bool false, .int .u64 0, .slice none 0 0, .slice (some ⟨w1.heap.size, 0, none⟩) 1 1, .slice none 0 0, .slice none 0 0] 46)) = W0
  go_loopw [5, 7] (fun s5 s7 wr => ∃ (j : Nat) (vv kv : Value), j ≤ m ∧ vv = s5 ∧ s7 = .int .i64 j ∧ WdSt wr w1.heap.size j j vv kv ∧ Below w1.heap.size w1 wr) (fun _ s7 _ => m - (RowKit.intOf s7).toNat)
  case atStart =>
    have n1 := more1 w1 (.cells #[.int .i64 1, .string ⟨#[102]⟩, .bool false, .int .u64 0, .slice none 0 0, .slice none 0 0, .slice none 0 0, .slice none 0 0] 46)
    have n2 := n1.alloc n1.size (.cells #[.int .i64 4, .string ⟨#[]⟩, .bool false, .int .u64 0, .slice none 0 0, .slice (some ⟨w1.heap.size, 0, none⟩) 1 1, .slice none 0 0, .slice none 0 0] 46)
    have hz := show (w1.alloc (.cells #[.int .i64 1, .string ⟨#[102]⟩, .bool false, .int .u64 0, .slice none 0 0, .slice none 0 0, .slice none 0 0, .slice none 0 0] 46)).heap.size = w1.heap.size + 1 from World.size_alloc ..
    have hb := BoxW.alloc (w1.alloc (.cells #[.int .i64 1, .string ⟨#[102]⟩, .bool false, .int .u64 0, .slice none 0 0, .slice none 0 0, .slice none 0 0, .slice none 0 0] 46)) #[.int .i64 4, .string ⟨#[]⟩, .bool false, .int .u64 0, .slice none 0 0, .slice (some ⟨w1.heap.size, 0, none⟩) 1 1, .slice none 0 0, .slice none 0 0] 46
    rw [hz] at hb
    have ho : (w1.alloc (.cells #[.int .i64 1, .string ⟨#[102]⟩, .bool false, .int .u64 0, .slice none 0 0, .slice none 0 0, .slice none 0 0, .slice none 0 0] 46)).ownsRow w1.heap.size 46 8 (.slice (some ⟨w1.heap.size, 0, none⟩) 1 1) (1 + 0) (kidsV 0) := ⟨rfl, Or.inr ⟨w1.heap.size, 1, _, rfl, Nat.le_refl _, heap_alloc_new _ _, Nat.le_refl _, by decide, rfl, rfl⟩⟩
    rw [← hW]
    exact ⟨0, _, _, Nat.zero_le _, rfl, rfl, ⟨World.ownsRow_nil _ _ _ _, hb, own_below ho (more1 _ _), fun e => by have e2 : w1.heap.size = w1.heap.size + 1 := Oi e; omega, fun g e => by cases e⟩, n2⟩
  case round =>
    obtain ⟨j, vv, kv, hj, rfl, rfl, hst, hbr⟩ := hrel
    by_cases gj : j < m
    · have gj' : (j : Int) < (m : Int) := by omega
      obtain ⟨av, cc, rfl, hlow⟩ := own_shape hst.v
      obtain ⟨ak, ck, rfl, hlk⟩ := own_shape hst.k
      have b0 : (0 : Int) ≤ (j : Int) := by omega
      have ej : IntKind.i64.wrap ((j : Int) + 1) = (j : Int) + 1 := by rw [IntKind.wrap_i64]; omega
      have hcv := conv_two wr (97 + (j : Int) % 26) (97 + (j : Int) / 26)
      obtain ⟨s2, hs2⟩ : ∃ s2, s2 = tx [UInt8.ofNat (97 + (j : Int) % 26).toNat, UInt8.ofNat (97 + (j : Int) / 26).toNat] := ⟨_, rfl⟩
      rw [← hs2] at hcv
      have hz2 : s2.size = 2 := by rw [hs2]; rfl
      have HS := Hd (show namesV (nmsA (j + 1)) = namesV (nmsA j) ++ [.string (⟨#[120]⟩ ++ s2)] by
        have e1 : nmsA (j + 1) = nmsA j ++ [nmA j] := by unfold nmsA; rw [List.range_succ, List.map_append]; rfl
        have e2 : (97 + (j : Int) % 26).toNat = 97 + j % 26 := by omega
        have e3 : (97 + (j : Int) / 26).toNat = 97 + j / 26 := by omega
        rw [e1, hs2, e2, e3]
        unfold namesV
        rw [List.map_append]
        rfl)
      have m1 := more1 wr (.cells #[.int .u8 (97 + (j : Int) % 26), .int .u8 (97 + (j : Int) / 26)] 5)
      have m2 := m1.alloc m1.size (.cells #[.string (⟨#[120]⟩ ++ s2)] 9)
      have HO5 := Hd (Ai (hst.below m2) (onB' hbr m2))
      have hz5 := m2.size
      have hzr := hbr.size
      have hz51 : (wr.alloc (.cells #[.int .u8 (97 + (j : Int) % 26), .int .u8 (97 + (j : Int) / 26)] 5)).heap.size = wr.heap.size + 1 := World.size_alloc ..
      have one1 : ∀ u ∈ [Value.string (⟨#[120]⟩ ++ s2)], u.oneCell' = true := fun u hu => by rw [List.mem_singleton.1 hu]; rfl
      have one8 : ∀ u ∈ numV, u.oneCell' = true := by decide
      have a9 : j + 1 ≤ maxLen := by unfold maxLen; omega
      have a8 : (j + 1) * 16 ≤ 140737488355328 := by omega
      have c9 : 1 + j + 1 ≤ maxLen := by unfold maxLen; omega
      have c8 : (1 + j + 1) * 136 ≤ 140737488355328 := by omega
      have nw := World.news_of_block (heap_alloc_new (wr.alloc (.cells #[.int .u8 (97 + (j : Int) % 26), .int .u8 (97 + (j : Int) / 26)] 5)) (.cells #[.string (⟨#[120]⟩ ++ s2)] 9))
      rw [hz51] at nw
      have HN := Hd nw
      clear hs2 hst hbr m1 m2 hz51 nw
      go_wp2_with (first
        | (at_builtin; refine wpList_append_lies _ rfl _ _ 39 rfl (w1.heap.size + 2) 9 i0 (.string ⟨#[]⟩) 1 16 Tryd.underlying39 hi0 hz0 hzs hzb rfl (by decide) (.slice av j cc) j (namesV (nmsA j)) rfl HO5.out.1.v ⟨wr.heap.size + 1, 0, none⟩ 1 1 [.string (⟨#[120]⟩ ++ s2)] rfl rfl HN.out one1 (by decide) a9 a8 (by simp; omega) _ rfl ?_; intro g9 cap9 w9 o1 o2 o3 o4; have st9 := HO5.out.1.names (by rw [HS.out]; exact o1) o2 o3; have q5 := st9.x.1 5 _ rfl; have st10 := st9.below (more1 w9 (.cells #[.int .i64 3, .string ⟨#[]⟩, .bool false, .int .u64 0, .slice none 0 0, .slice none 0 0, .slice none 0 0, .slice none 0 0] 46)); have hb9 := Hd (below_own HO5.out.2 o2 (fun g hg => by have := HO5.out.1.low.1 g hg; omega)); have hz9 := hb9.out.size)
        | (at_builtin; refine wpList_append_lies _ rfl _ _ 43 rfl w1.heap.size 46 i1 (.agg #[.int .i64 0, .string ⟨#[]⟩, .bool false, .int .u64 0, .slice none 0 0, .slice none 0 0, .slice none 0 0, .slice none 0 0]) 8 136 Tryd.underlying43 hi1 hy0 hys hyb rfl (by decide) (.slice ak (1 + j) ck) (1 + j) (kidsV j) rfl st10.k ⟨w9.heap.size, 0, none⟩ 1 1 numV rfl rfl (World.news_of_block (heap_alloc_new _ _)) one8 (by decide) c9 c8 (by simp; omega) _ rfl ?_; intro g10 cap10 w10 p1 p2 p3 p4; obtain ⟨bx10, st11⟩ := st10.kids p1 p2 p3; have r5 := bx10.1 5 _ rfl; have z5 := bx10.2 5; have hb10 := Hd (below_own (onB' hb9.out (more1 w9 (.cells #[.int .i64 3, .string ⟨#[]⟩, .bool false, .int .u64 0, .slice none 0 0, .slice none 0 0, .slice none 0 0, .slice none 0 0] 46))) p2 st10.low.2)))
      exact ⟨⟨j + 1, _, _, by omega, rfl, by go_num, st11, below_of_new hb10.out (set_grown ..) (by omega)⟩, by simp [RowKit.intOf]; omega⟩
    · obtain rfl : j = m := by omega
      obtain ⟨av, cc, rfl, hlow⟩ := own_shape hst.v
      obtain ⟨ak, ck, rfl, hlk⟩ := own_shape hst.k
      have HW := Hd (Ai hst hbr)
      clear hst hbr hlow hlk
      have h61 : j < 61 := by omega
      have h0 : 0 < j := by omega
      by_cases g24 : 24 < j
      · cases lam with
        | false =>
          have n1 := more1 wr (.cells #[.int .i64 3, .string ⟨#[]⟩, .bool false, .int .u64 0, .slice none 0 0, .slice none 0 0, .slice none 0 0, .slice none 0 0] 46)
          have n2 := n1.alloc n1.size (.cells #[.string ⟨#[102]⟩, .slice av j cc, .int .i64 3, .string ⟨#[]⟩, .bool false, .int .u64 0, .slice none 0 0, .slice none 0 0, .slice none 0 0, .slice none 0 0] 48)
          have n3 := n2.alloc n2.size (.cells #[.string ⟨#[102]⟩, .slice av j cc, .int .i64 3, .string ⟨#[]⟩, .bool false, .int .u64 0, .slice none 0 0, .slice none 0 0, .slice none 0 0, .slice none 0 0, .string ⟨#[109, 97, 105, 110]⟩, .slice none 0 0, .int .i64 3, .string ⟨#[]⟩, .bool false, .int .u64 0, .slice none 0 0, .slice none 0 0, .slice none 0 0, .slice none 0 0] 48)
          have z1 : (wr.alloc (.cells #[.int .i64 3, .string ⟨#[]⟩, .bool false, .int .u64 0, .slice none 0 0, .slice none 0 0, .slice none 0 0, .slice none 0 0] 46)).heap.size = wr.heap.size + 1 := World.size_alloc ..
          have z2 : ((wr.alloc (.cells #[.int .i64 3, .string ⟨#[]⟩, .bool false, .int .u64 0, .slice none 0 0, .slice none 0 0, .slice none 0 0, .slice none 0 0] 46)).alloc (.cells #[.string ⟨#[102]⟩, .slice av j cc, .int .i64 3, .string ⟨#[]⟩, .bool false, .int .u64 0, .slice none 0 0, .slice none 0 0, .slice none 0 0, .slice none 0 0] 48)).heap.size = wr.heap.size + 1 + 1 := by rw [World.size_alloc, z1]
          have hh := heap_alloc_new ((wr.alloc (.cells #[.int .i64 3, .string ⟨#[]⟩, .bool false, .int .u64 0, .slice none 0 0, .slice none 0 0, .slice none 0 0, .slice none 0 0] 46)).alloc (.cells #[.string ⟨#[102]⟩, .slice av j cc, .int .i64 3, .string ⟨#[]⟩, .bool false, .int .u64 0, .slice none 0 0, .slice none 0 0, .slice none 0 0, .slice none 0 0] 48)) (.cells #[.string ⟨#[102]⟩, .slice av j cc, .int .i64 3, .string ⟨#[]⟩, .bool false, .int .u64 0, .slice none 0 0, .slice none 0 0, .slice none 0 0, .slice none 0 0, .string ⟨#[109, 97, 105, 110]⟩, .slice none 0 0, .int .i64 3, .string ⟨#[]⟩, .bool false, .int .u64 0, .slice none 0 0, .slice none 0 0, .slice none 0 0, .slice none 0 0] 48)
          rw [z2] at hh
          have HB0 := Hd (((BoxW.alloc wr #[.int .i64 3, .string ⟨#[]⟩, .bool false, .int .u64 0, .slice none 0 0, .slice none 0 0, .slice none 0 0, .slice none 0 0] 46).below (more1 (wr.alloc (.cells #[.int .i64 3, .string ⟨#[]⟩, .bool false, .int .u64 0, .slice none 0 0, .slice none 0 0, .slice none 0 0, .slice none 0 0] 46)) (.cells #[.string ⟨#[102]⟩, .slice av j cc, .int .i64 3, .string ⟨#[]⟩, .bool false, .int .u64 0, .slice none 0 0, .slice none 0 0, .slice none 0 0, .slice none 0 0] 48))).below (more1 ((wr.alloc (.cells #[.int .i64 3, .string ⟨#[]⟩, .bool false, .int .u64 0, .slice none 0 0, .slice none 0 0, .slice none 0 0, .slice none 0 0] 46)).alloc (.cells #[.string ⟨#[102]⟩, .slice av j cc, .int .i64 3, .string ⟨#[]⟩, .bool false, .int .u64 0, .slice none 0 0, .slice none 0 0, .slice none 0 0, .slice none 0 0] 48)) (.cells #[.string ⟨#[102]⟩, .slice av j cc, .int .i64 3, .string ⟨#[]⟩, .bool false, .int .u64 0, .slice none 0 0, .slice none 0 0, .slice none 0 0, .slice none 0 0, .string ⟨#[109, 97, 105, 110]⟩, .slice none 0 0, .int .i64 3, .string ⟨#[]⟩, .bool false, .int .u64 0, .slice none 0 0, .slice none 0 0, .slice none 0 0, .slice none 0 0] 48)))
          have hname : RowAt (((wr.alloc (.cells #[.int .i64 3, .string ⟨#[]⟩, .bool false, .int .u64 0, .slice none 0 0, .slice none 0 0, .slice none 0 0, .slice none 0 0] 46)).alloc (.cells #[.string ⟨#[102]⟩, .slice av j cc, .int .i64 3, .string ⟨#[]⟩, .bool false, .int .u64 0, .slice none 0 0, .slice none 0 0, .slice none 0 0, .slice none 0 0] 48)).alloc (.cells #[.string ⟨#[102]⟩, .slice av j cc, .int .i64 3, .string ⟨#[]⟩, .bool false, .int .u64 0, .slice none 0 0, .slice none 0 0, .slice none 0 0, .slice none 0 0, .string ⟨#[109, 97, 105, 110]⟩, .slice none 0 0, .int .i64 3, .string ⟨#[]⟩, .bool false, .int .u64 0, .slice none 0 0, .slice none 0 0, .slice none 0 0, .slice none 0 0] 48)) (fun _ => True) 9 1 (.slice av j cc) j (namesV (nmsA j)) := (RowAt.of HW.out.1.v (fun _ _ => trivial)).move fun g _ lt => ⟨trivial, n3.block g lt⟩
          have hmod : ModAt (((wr.alloc (.cells #[.int .i64 3, .string ⟨#[]⟩, .bool false, .int .u64 0, .slice none 0 0, .slice none 0 0, .slice none 0 0, .slice none 0 0] 46)).alloc (.cells #[.string ⟨#[102]⟩, .slice av j cc, .int .i64 3, .string ⟨#[]⟩, .bool false, .int .u64 0, .slice none 0 0, .slice none 0 0, .slice none 0 0, .slice none 0 0] 48)).alloc (.cells #[.string ⟨#[102]⟩, .slice av j cc, .int .i64 3, .string ⟨#[]⟩, .bool false, .int .u64 0, .slice none 0 0, .slice none 0 0, .slice none 0 0, .slice none 0 0, .string ⟨#[109, 97, 105, 110]⟩, .slice none 0 0, .int .i64 3, .string ⟨#[]⟩, .bool false, .int .u64 0, .slice none 0 0, .slice none 0 0, .slice none 0 0, .slice none 0 0] 48)) (fun _ => True) (modF j) none 0 (some ⟨wr.heap.size + 1 + 1, 0, none⟩) 2 := modF_at hname hh
          have HC := Hd (acheck_any (modF j) (modF_ok ⟨j, h61⟩) (none_fo (modF_ar ⟨j, h61⟩).1) (fun _ h => by cases h) none 0 (some ⟨wr.heap.size + 1 + 1, 0, none⟩) 2 _ (((wr.alloc (.cells #[.int .i64 3, .string ⟨#[]⟩, .bool false, .int .u64 0, .slice none 0 0, .slice none 0 0, .slice none 0 0, .slice none 0 0] 46)).alloc (.cells #[.string ⟨#[102]⟩, .slice av j cc, .int .i64 3, .string ⟨#[]⟩, .bool false, .int .u64 0, .slice none 0 0, .slice none 0 0, .slice none 0 0, .slice none 0 0] 48)).alloc (.cells #[.string ⟨#[102]⟩, .slice av j cc, .int .i64 3, .string ⟨#[]⟩, .bool false, .int .u64 0, .slice none 0 0, .slice none 0 0, .slice none 0 0, .slice none 0 0, .string ⟨#[109, 97, 105, 110]⟩, .slice none 0 0, .int .i64 3, .string ⟨#[]⟩, .bool false, .int .u64 0, .slice none 0 0, .slice none 0 0, .slice none 0 0, .slice none 0 0] 48)) hmod (H1.out.2.below (onB' HW.out.2 n3)))
          rw [show arM (modF j) = (some (12, [102])) from (modF_ar ⟨j, h61⟩).2.trans (if_pos g24)] at HC
          have HX := Hd (Ai n3 (onB' HW.out.2 n3))
          clear hmod hname hh n1 n2 n3 z1 z2
          go_wp2_with fail
          refine HC.out.mono ?_
          rintro e w5 ⟨rfl, hb5⟩
          have ea : stN (some ((12 : Int), ([102] : Nm))) = (12, [102]) := rfl
          have eb : tx [102] = ⟨#[102]⟩ := rfl
          rw [ea, eb]
          clear ea eb
          have hst5 := HW.out.1.below (onB' HX.out.1 hb5)
          have hb0 := HB0.out.below hb5
          have q0 : w5.cell? ⟨wr.heap.size, 0, none⟩ = some (.int .i64 3) := hb0.1 0 _ rfl
          have q1 : w5.cell? ⟨wr.heap.size, 1, none⟩ = some (.string ⟨#[]⟩) := hb0.1 1 _ rfl
          have q2 : w5.cell? ⟨wr.heap.size, 2, none⟩ = some (.bool false) := hb0.1 2 _ rfl
          have q3 : w5.cell? ⟨wr.heap.size, 3, none⟩ = some (.int .u64 0) := hb0.1 3 _ rfl
          have q4 : w5.cell? ⟨wr.heap.size, 4, none⟩ = some (.slice none 0 0) := hb0.1 4 _ rfl
          have q5 : w5.cell? ⟨wr.heap.size, 5, none⟩ = some (.slice none 0 0) := hb0.1 5 _ rfl
          have q6 : w5.cell? ⟨wr.heap.size, 6, none⟩ = some (.slice none 0 0) := hb0.1 6 _ rfl
          have q7 : w5.cell? ⟨wr.heap.size, 7, none⟩ = some (.slice none 0 0) := hb0.1 7 _ rfl
          have r0 : w5.cell? ⟨w1.heap.size + 1, 0, none⟩ = some (.int .i64 4) := hst5.x.1 0 _ rfl
          have r1 : w5.cell? ⟨w1.heap.size + 1, 1, none⟩ = some (.string ⟨#[]⟩) := hst5.x.1 1 _ rfl
          have r2 : w5.cell? ⟨w1.heap.size + 1, 2, none⟩ = some (.bool false) := hst5.x.1 2 _ rfl
          have r3 : w5.cell? ⟨w1.heap.size + 1, 3, none⟩ = some (.int .u64 0) := hst5.x.1 3 _ rfl
          have r4 : w5.cell? ⟨w1.heap.size + 1, 4, none⟩ = some (.slice none 0 0) := hst5.x.1 4 _ rfl
          have r5 : w5.cell? ⟨w1.heap.size + 1, 5, none⟩ = some (.slice ak (1 + j) ck) := hst5.x.1 5 _ rfl
          have r6 : w5.cell? ⟨w1.heap.size + 1, 6, none⟩ = some (.slice none 0 0) := hst5.x.1 6 _ rfl
          have r7 : w5.cell? ⟨w1.heap.size + 1, 7, none⟩ = some (.slice none 0 0) := hst5.x.1 7 _ rfl
          have ng := more1 w5 (.cells #[.string ⟨#[102]⟩, .slice none 0 0, .int .i64 3, .string ⟨#[]⟩, .bool false, .int .u64 0, .slice none 0 0, .slice none 0 0, .slice none 0 0, .slice none 0 0, .string ⟨#[109, 97, 105, 110]⟩, .slice none 0 0, .int .i64 4, .string ⟨#[]⟩, .bool false, .int .u64 0, .slice none 0 0, .slice ak (1 + j) ck, .slice none 0 0, .slice none 0 0] 48)
          have HG := Hd (acheck_any (modG j) (modG_ok ⟨j, h61⟩) (none_fo (modG_ar ⟨j, h61⟩).1) (fun _ h => by cases h) none 0 (some ⟨w5.heap.size, 0, none⟩) 2 _ (w5.alloc (.cells #[.string ⟨#[102]⟩, .slice none 0 0, .int .i64 3, .string ⟨#[]⟩, .bool false, .int .u64 0, .slice none 0 0, .slice none 0 0, .slice none 0 0, .slice none 0 0, .string ⟨#[109, 97, 105, 110]⟩, .slice none 0 0, .int .i64 4, .string ⟨#[]⟩, .bool false, .int .u64 0, .slice none 0 0, .slice ak (1 + j) ck, .slice none 0 0, .slice none 0 0] 48)) (modG_at ((RowAt.of (hst5.below ng).k (fun _ _ => trivial))) (heap_alloc_new w5 (.cells #[.string ⟨#[102]⟩, .slice none 0 0, .int .i64 3, .string ⟨#[]⟩, .bool false, .int .u64 0, .slice none 0 0, .slice none 0 0, .slice none 0 0, .slice none 0 0, .string ⟨#[109, 97, 105, 110]⟩, .slice none 0 0, .int .i64 4, .string ⟨#[]⟩, .bool false, .int .u64 0, .slice none 0 0, .slice ak (1 + j) ck, .slice none 0 0, .slice none 0 0] 48))) (H1.out.2.below (onB' (onB' HX.out.2 hb5) ng)))
          rw [show arM (modG j) = (some (12, [])) from (modG_ar ⟨j, h61⟩).2.trans (if_pos g24)] at HG
          have HY := Hd (onB' (onB' HX.out.2 hb5) ng)
          clear ng hst5 hb0 hb5 HC HX HB0
          go_wp2_with fail
          refine HG.out.mono ?_
          rintro e w6 ⟨rfl, hb6⟩
          have HZ := Hd (onB' H1.out.1 (onB' HY.out hb6))
          have ea : stN (some ((12 : Int), ([] : Nm))) = (12, []) := rfl
          have eb : tx [] = ⟨#[]⟩ := rfl
          rw [ea, eb]
          clear ea eb hb6 HG
          have f24 : decide ((24 : Int) < (j : Int)) = true := decide_eq_true (by omega)
          go_wp2_with fail
          go_ret
          exact ⟨rfl, HZ.out⟩
        | true =>
          have n1 := more1 wr (.cells #[.int .i64 3, .string ⟨#[]⟩, .bool false, .int .u64 0, .slice none 0 0, .slice none 0 0, .slice none 0 0, .slice none 0 0] 46)
          have n2 := n1.alloc n1.size (.cells #[.string ⟨#[102]⟩, .slice none 0 0, .int .i64 8, .string ⟨#[]⟩, .bool false, .int .u64 0, .slice av j cc, .slice (some ⟨wr.heap.size + 1 + 1, 0, none⟩) 1 1, .slice none 0 0, .slice none 0 0] 48)
          have n3 := n2.alloc n2.size (.cells #[.int .i64 3, .string ⟨#[]⟩, .bool false, .int .u64 0, .slice none 0 0, .slice none 0 0, .slice none 0 0, .slice none 0 0] 46)
          have n4 := n3.alloc n3.size (.cells #[.string ⟨#[102]⟩, .slice none 0 0, .int .i64 8, .string ⟨#[]⟩, .bool false, .int .u64 0, .slice av j cc, .slice (some ⟨wr.heap.size + 1 + 1, 0, none⟩) 1 1, .slice none 0 0, .slice none 0 0, .string ⟨#[109, 97, 105, 110]⟩, .slice none 0 0, .int .i64 3, .string ⟨#[]⟩, .bool false, .int .u64 0, .slice none 0 0, .slice none 0 0, .slice none 0 0, .slice none 0 0] 48)
          have z1 : (wr.alloc (.cells #[.int .i64 3, .string ⟨#[]⟩, .bool false, .int .u64 0, .slice none 0 0, .slice none 0 0, .slice none 0 0, .slice none 0 0] 46)).heap.size = wr.heap.size + 1 := World.size_alloc ..
          have z2 : ((wr.alloc (.cells #[.int .i64 3, .string ⟨#[]⟩, .bool false, .int .u64 0, .slice none 0 0, .slice none 0 0, .slice none 0 0, .slice none 0 0] 46)).alloc (.cells #[.string ⟨#[102]⟩, .slice none 0 0, .int .i64 8, .string ⟨#[]⟩, .bool false, .int .u64 0, .slice av j cc, .slice (some ⟨wr.heap.size + 1 + 1, 0, none⟩) 1 1, .slice none 0 0, .slice none 0 0] 48)).heap.size = wr.heap.size + 1 + 1 := by rw [World.size_alloc, z1]
          have z3 : (((wr.alloc (.cells #[.int .i64 3, .string ⟨#[]⟩, .bool false, .int .u64 0, .slice none 0 0, .slice none 0 0, .slice none 0 0, .slice none 0 0] 46)).alloc (.cells #[.string ⟨#[102]⟩, .slice none 0 0, .int .i64 8, .string ⟨#[]⟩, .bool false, .int .u64 0, .slice av j cc, .slice (some ⟨wr.heap.size + 1 + 1, 0, none⟩) 1 1, .slice none 0 0, .slice none 0 0] 48)).alloc (.cells #[.int .i64 3, .string ⟨#[]⟩, .bool false, .int .u64 0, .slice none 0 0, .slice none 0 0, .slice none 0 0, .slice none 0 0] 46)).heap.size = wr.heap.size + 1 + 1 + 1 := by rw [World.size_alloc, z2]
          have hh := heap_alloc_new (((wr.alloc (.cells #[.int .i64 3, .string ⟨#[]⟩, .bool false, .int .u64 0, .slice none 0 0, .slice none 0 0, .slice none 0 0, .slice none 0 0] 46)).alloc (.cells #[.string ⟨#[102]⟩, .slice none 0 0, .int .i64 8, .string ⟨#[]⟩, .bool false, .int .u64 0, .slice av j cc, .slice (some ⟨wr.heap.size + 1 + 1, 0, none⟩) 1 1, .slice none 0 0, .slice none 0 0] 48)).alloc (.cells #[.int .i64 3, .string ⟨#[]⟩, .bool false, .int .u64 0, .slice none 0 0, .slice none 0 0, .slice none 0 0, .slice none 0 0] 46)) (.cells #[.string ⟨#[102]⟩, .slice none 0 0, .int .i64 8, .string ⟨#[]⟩, .bool false, .int .u64 0, .slice av j cc, .slice (some ⟨wr.heap.size + 1 + 1, 0, none⟩) 1 1, .slice none 0 0, .slice none 0 0, .string ⟨#[109, 97, 105, 110]⟩, .slice none 0 0, .int .i64 3, .string ⟨#[]⟩, .bool false, .int .u64 0, .slice none 0 0, .slice none 0 0, .slice none 0 0, .slice none 0 0] 48)
          rw [z3] at hh
          have HB0 := Hd ((((BoxW.alloc wr #[.int .i64 3, .string ⟨#[]⟩, .bool false, .int .u64 0, .slice none 0 0, .slice none 0 0, .slice none 0 0, .slice none 0 0] 46).below (more1 (wr.alloc (.cells #[.int .i64 3, .string ⟨#[]⟩, .bool false, .int .u64 0, .slice none 0 0, .slice none 0 0, .slice none 0 0, .slice none 0 0] 46)) (.cells #[.string ⟨#[102]⟩, .slice none 0 0, .int .i64 8, .string ⟨#[]⟩, .bool false, .int .u64 0, .slice av j cc, .slice (some ⟨wr.heap.size + 1 + 1, 0, none⟩) 1 1, .slice none 0 0, .slice none 0 0] 48))).below (more1 ((wr.alloc (.cells #[.int .i64 3, .string ⟨#[]⟩, .bool false, .int .u64 0, .slice none 0 0, .slice none 0 0, .slice none 0 0, .slice none 0 0] 46)).alloc (.cells #[.string ⟨#[102]⟩, .slice none 0 0, .int .i64 8, .string ⟨#[]⟩, .bool false, .int .u64 0, .slice av j cc, .slice (some ⟨wr.heap.size + 1 + 1, 0, none⟩) 1 1, .slice none 0 0, .slice none 0 0] 48)) (.cells #[.int .i64 3, .string ⟨#[]⟩, .bool false, .int .u64 0, .slice none 0 0, .slice none 0 0, .slice none 0 0, .slice none 0 0] 46))).below (more1 (((wr.alloc (.cells #[.int .i64 3, .string ⟨#[]⟩, .bool false, .int .u64 0, .slice none 0 0, .slice none 0 0, .slice none 0 0, .slice none 0 0] 46)).alloc (.cells #[.string ⟨#[102]⟩, .slice none 0 0, .int .i64 8, .string ⟨#[]⟩, .bool false, .int .u64 0, .slice av j cc, .slice (some ⟨wr.heap.size + 1 + 1, 0, none⟩) 1 1, .slice none 0 0, .slice none 0 0] 48)).alloc (.cells #[.int .i64 3, .string ⟨#[]⟩, .bool false, .int .u64 0, .slice none 0 0, .slice none 0 0, .slice none 0 0, .slice none 0 0] 46)) (.cells #[.string ⟨#[102]⟩, .slice none 0 0, .int .i64 8, .string ⟨#[]⟩, .bool false, .int .u64 0, .slice av j cc, .slice (some ⟨wr.heap.size + 1 + 1, 0, none⟩) 1 1, .slice none 0 0, .slice none 0 0, .string ⟨#[109, 97, 105, 110]⟩, .slice none 0 0, .int .i64 3, .string ⟨#[]⟩, .bool false, .int .u64 0, .slice none 0 0, .slice none 0 0, .slice none 0 0, .slice none 0 0] 48)))
          have hk1 := heap_alloc_new ((wr.alloc (.cells #[.int .i64 3, .string ⟨#[]⟩, .bool false, .int .u64 0, .slice none 0 0, .slice none 0 0, .slice none 0 0, .slice none 0 0] 46)).alloc (.cells #[.string ⟨#[102]⟩, .slice none 0 0, .int .i64 8, .string ⟨#[]⟩, .bool false, .int .u64 0, .slice av j cc, .slice (some ⟨wr.heap.size + 1 + 1, 0, none⟩) 1 1, .slice none 0 0, .slice none 0 0] 48)) (.cells #[.int .i64 3, .string ⟨#[]⟩, .bool false, .int .u64 0, .slice none 0 0, .slice none 0 0, .slice none 0 0, .slice none 0 0] 46)
          rw [z2] at hk1
          have hk2 := ((more1 (((wr.alloc (.cells #[.int .i64 3, .string ⟨#[]⟩, .bool false, .int .u64 0, .slice none 0 0, .slice none 0 0, .slice none 0 0, .slice none 0 0] 46)).alloc (.cells #[.string ⟨#[102]⟩, .slice none 0 0, .int .i64 8, .string ⟨#[]⟩, .bool false, .int .u64 0, .slice av j cc, .slice (some ⟨wr.heap.size + 1 + 1, 0, none⟩) 1 1, .slice none 0 0, .slice none 0 0] 48)).alloc (.cells #[.int .i64 3, .string ⟨#[]⟩, .bool false, .int .u64 0, .slice none 0 0, .slice none 0 0, .slice none 0 0, .slice none 0 0] 46)) (.cells #[.string ⟨#[102]⟩, .slice none 0 0, .int .i64 8, .string ⟨#[]⟩, .bool false, .int .u64 0, .slice av j cc, .slice (some ⟨wr.heap.size + 1 + 1, 0, none⟩) 1 1, .slice none 0 0, .slice none 0 0, .string ⟨#[109, 97, 105, 110]⟩, .slice none 0 0, .int .i64 3, .string ⟨#[]⟩, .bool false, .int .u64 0, .slice none 0 0, .slice none 0 0, .slice none 0 0, .slice none 0 0] 48)).block (wr.heap.size + 1 + 1) (by rw [z3]; omega)).trans hk1
          have hname : RowAt ((((wr.alloc (.cells #[.int .i64 3, .string ⟨#[]⟩, .bool false, .int .u64 0, .slice none 0 0, .slice none 0 0, .slice none 0 0, .slice none 0 0] 46)).alloc (.cells #[.string ⟨#[102]⟩, .slice none 0 0, .int .i64 8, .string ⟨#[]⟩, .bool false, .int .u64 0, .slice av j cc, .slice (some ⟨wr.heap.size + 1 + 1, 0, none⟩) 1 1, .slice none 0 0, .slice none 0 0] 48)).alloc (.cells #[.int .i64 3, .string ⟨#[]⟩, .bool false, .int .u64 0, .slice none 0 0, .slice none 0 0, .slice none 0 0, .slice none 0 0] 46)).alloc (.cells #[.string ⟨#[102]⟩, .slice none 0 0, .int .i64 8, .string ⟨#[]⟩, .bool false, .int .u64 0, .slice av j cc, .slice (some ⟨wr.heap.size + 1 + 1, 0, none⟩) 1 1, .slice none 0 0, .slice none 0 0, .string ⟨#[109, 97, 105, 110]⟩, .slice none 0 0, .int .i64 3, .string ⟨#[]⟩, .bool false, .int .u64 0, .slice none 0 0, .slice none 0 0, .slice none 0 0, .slice none 0 0] 48)) (fun _ => True) 9 1 (.slice av j cc) j (namesV (nmsA j)) := (RowAt.of HW.out.1.v (fun _ _ => trivial)).move fun g _ lt => ⟨trivial, n4.block g lt⟩
          have hmod : ModAt ((((wr.alloc (.cells #[.int .i64 3, .string ⟨#[]⟩, .bool false, .int .u64 0, .slice none 0 0, .slice none 0 0, .slice none 0 0, .slice none 0 0] 46)).alloc (.cells #[.string ⟨#[102]⟩, .slice none 0 0, .int .i64 8, .string ⟨#[]⟩, .bool false, .int .u64 0, .slice av j cc, .slice (some ⟨wr.heap.size + 1 + 1, 0, none⟩) 1 1, .slice none 0 0, .slice none 0 0] 48)).alloc (.cells #[.int .i64 3, .string ⟨#[]⟩, .bool false, .int .u64 0, .slice none 0 0, .slice none 0 0, .slice none 0 0, .slice none 0 0] 46)).alloc (.cells #[.string ⟨#[102]⟩, .slice none 0 0, .int .i64 8, .string ⟨#[]⟩, .bool false, .int .u64 0, .slice av j cc, .slice (some ⟨wr.heap.size + 1 + 1, 0, none⟩) 1 1, .slice none 0 0, .slice none 0 0, .string ⟨#[109, 97, 105, 110]⟩, .slice none 0 0, .int .i64 3, .string ⟨#[]⟩, .bool false, .int .u64 0, .slice none 0 0, .slice none 0 0, .slice none 0 0, .slice none 0 0] 48)) (fun _ => True) (modL' j) none 0 (some ⟨wr.heap.size + 1 + 1 + 1, 0, none⟩) 2 := modL_at' hname (row_of hk2 rfl (by decide)) hh
          have HC := Hd (acheck_any (modL' j) (modL_ok' ⟨j, h61⟩) (none_fo (modL_ar' ⟨j, h61⟩ h0).1) (fun _ h => by cases h) none 0 (some ⟨wr.heap.size + 1 + 1 + 1, 0, none⟩) 2 _ ((((wr.alloc (.cells #[.int .i64 3, .string ⟨#[]⟩, .bool false, .int .u64 0, .slice none 0 0, .slice none 0 0, .slice none 0 0, .slice none 0 0] 46)).alloc (.cells #[.string ⟨#[102]⟩, .slice none 0 0, .int .i64 8, .string ⟨#[]⟩, .bool false, .int .u64 0, .slice av j cc, .slice (some ⟨wr.heap.size + 1 + 1, 0, none⟩) 1 1, .slice none 0 0, .slice none 0 0] 48)).alloc (.cells #[.int .i64 3, .string ⟨#[]⟩, .bool false, .int .u64 0, .slice none 0 0, .slice none 0 0, .slice none 0 0, .slice none 0 0] 46)).alloc (.cells #[.string ⟨#[102]⟩, .slice none 0 0, .int .i64 8, .string ⟨#[]⟩, .bool false, .int .u64 0, .slice av j cc, .slice (some ⟨wr.heap.size + 1 + 1, 0, none⟩) 1 1, .slice none 0 0, .slice none 0 0, .string ⟨#[109, 97, 105, 110]⟩, .slice none 0 0, .int .i64 3, .string ⟨#[]⟩, .bool false, .int .u64 0, .slice none 0 0, .slice none 0 0, .slice none 0 0, .slice none 0 0] 48)) hmod (H1.out.2.below (onB' HW.out.2 n4)))
          rw [show arM (modL' j) = (some (12, [120, 97, 97])) from (modL_ar' ⟨j, h61⟩ h0).2.trans (if_pos g24)] at HC
          have HX := Hd (Ai n4 (onB' HW.out.2 n4))
          clear hmod hname hh n1 n2 n3 n4 z1 z2 z3 hk1 hk2
          go_wp2_with fail
          refine HC.out.mono ?_
          rintro e w5 ⟨rfl, hb5⟩
          have ea : stN (some ((12 : Int), ([120, 97, 97] : Nm))) = (12, [120, 97, 97]) := rfl
          have eb : tx [120, 97, 97] = ⟨#[120, 97, 97]⟩ := rfl
          rw [ea, eb]
          clear ea eb
          have hst5 := HW.out.1.below (onB' HX.out.1 hb5)
          have hb0 := HB0.out.below hb5
          have q0 : w5.cell? ⟨wr.heap.size, 0, none⟩ = some (.int .i64 3) := hb0.1 0 _ rfl
          have q1 : w5.cell? ⟨wr.heap.size, 1, none⟩ = some (.string ⟨#[]⟩) := hb0.1 1 _ rfl
          have q2 : w5.cell? ⟨wr.heap.size, 2, none⟩ = some (.bool false) := hb0.1 2 _ rfl
          have q3 : w5.cell? ⟨wr.heap.size, 3, none⟩ = some (.int .u64 0) := hb0.1 3 _ rfl
          have q4 : w5.cell? ⟨wr.heap.size, 4, none⟩ = some (.slice none 0 0) := hb0.1 4 _ rfl
          have q5 : w5.cell? ⟨wr.heap.size, 5, none⟩ = some (.slice none 0 0) := hb0.1 5 _ rfl
          have q6 : w5.cell? ⟨wr.heap.size, 6, none⟩ = some (.slice none 0 0) := hb0.1 6 _ rfl
          have q7 : w5.cell? ⟨wr.heap.size, 7, none⟩ = some (.slice none 0 0) := hb0.1 7 _ rfl
          have r0 : w5.cell? ⟨w1.heap.size + 1, 0, none⟩ = some (.int .i64 4) := hst5.x.1 0 _ rfl
          have r1 : w5.cell? ⟨w1.heap.size + 1, 1, none⟩ = some (.string ⟨#[]⟩) := hst5.x.1 1 _ rfl
          have r2 : w5.cell? ⟨w1.heap.size + 1, 2, none⟩ = some (.bool false) := hst5.x.1 2 _ rfl
          have r3 : w5.cell? ⟨w1.heap.size + 1, 3, none⟩ = some (.int .u64 0) := hst5.x.1 3 _ rfl
          have r4 : w5.cell? ⟨w1.heap.size + 1, 4, none⟩ = some (.slice none 0 0) := hst5.x.1 4 _ rfl
          have r5 : w5.cell? ⟨w1.heap.size + 1, 5, none⟩ = some (.slice ak (1 + j) ck) := hst5.x.1 5 _ rfl
          have r6 : w5.cell? ⟨w1.heap.size + 1, 6, none⟩ = some (.slice none 0 0) := hst5.x.1 6 _ rfl
          have r7 : w5.cell? ⟨w1.heap.size + 1, 7, none⟩ = some (.slice none 0 0) := hst5.x.1 7 _ rfl
          have ng := more1 w5 (.cells #[.string ⟨#[102]⟩, .slice none 0 0, .int .i64 3, .string ⟨#[]⟩, .bool false, .int .u64 0, .slice none 0 0, .slice none 0 0, .slice none 0 0, .slice none 0 0, .string ⟨#[109, 97, 105, 110]⟩, .slice none 0 0, .int .i64 4, .string ⟨#[]⟩, .bool false, .int .u64 0, .slice none 0 0, .slice ak (1 + j) ck, .slice none 0 0, .slice none 0 0] 48)
          have HG := Hd (acheck_any (modG j) (modG_ok ⟨j, h61⟩) (none_fo (modG_ar ⟨j, h61⟩).1) (fun _ h => by cases h) none 0 (some ⟨w5.heap.size, 0, none⟩) 2 _ (w5.alloc (.cells #[.string ⟨#[102]⟩, .slice none 0 0, .int .i64 3, .string ⟨#[]⟩, .bool false, .int .u64 0, .slice none 0 0, .slice none 0 0, .slice none 0 0, .slice none 0 0, .string ⟨#[109, 97, 105, 110]⟩, .slice none 0 0, .int .i64 4, .string ⟨#[]⟩, .bool false, .int .u64 0, .slice none 0 0, .slice ak (1 + j) ck, .slice none 0 0, .slice none 0 0] 48)) (modG_at ((RowAt.of (hst5.below ng).k (fun _ _ => trivial))) (heap_alloc_new w5 (.cells #[.string ⟨#[102]⟩, .slice none 0 0, .int .i64 3, .string ⟨#[]⟩, .bool false, .int .u64 0, .slice none 0 0, .slice none 0 0, .slice none 0 0, .slice none 0 0, .string ⟨#[109, 97, 105, 110]⟩, .slice none 0 0, .int .i64 4, .string ⟨#[]⟩, .bool false, .int .u64 0, .slice none 0 0, .slice ak (1 + j) ck, .slice none 0 0, .slice none 0 0] 48))) (H1.out.2.below (onB' (onB' HX.out.2 hb5) ng)))
          rw [show arM (modG j) = (some (12, [])) from (modG_ar ⟨j, h61⟩).2.trans (if_pos g24)] at HG
          have HY := Hd (onB' (onB' HX.out.2 hb5) ng)
          clear ng hst5 hb0 hb5 HC HX HB0
          go_wp2_with fail
          refine HG.out.mono ?_
          rintro e w6 ⟨rfl, hb6⟩
          have HZ := Hd (onB' H1.out.1 (onB' HY.out hb6))
          have ea : stN (some ((12 : Int), ([] : Nm))) = (12, []) := rfl
          have eb : tx [] = ⟨#[]⟩ := rfl
          rw [ea, eb]
          clear ea eb hb6 HG
          have f24 : decide ((24 : Int) < (j : Int)) = true := decide_eq_true (by omega)
          go_wp2_with fail
          go_ret
          exact ⟨rfl, HZ.out⟩
      · cases lam with
        | false =>
          have n1 := more1 wr (.cells #[.int .i64 3, .string ⟨#[]⟩, .bool false, .int .u64 0, .slice none 0 0, .slice none 0 0, .slice none 0 0, .slice none 0 0] 46)
          have n2 := n1.alloc n1.size (.cells #[.string ⟨#[102]⟩, .slice av j cc, .int .i64 3, .string ⟨#[]⟩, .bool false, .int .u64 0, .slice none 0 0, .slice none 0 0, .slice none 0 0, .slice none 0 0] 48)
          have n3 := n2.alloc n2.size (.cells #[.string ⟨#[102]⟩, .slice av j cc, .int .i64 3, .string ⟨#[]⟩, .bool false, .int .u64 0, .slice none 0 0, .slice none 0 0, .slice none 0 0, .slice none 0 0, .string ⟨#[109, 97, 105, 110]⟩, .slice none 0 0, .int .i64 3, .string ⟨#[]⟩, .bool false, .int .u64 0, .slice none 0 0, .slice none 0 0, .slice none 0 0, .slice none 0 0] 48)
          have z1 : (wr.alloc (.cells #[.int .i64 3, .string ⟨#[]⟩, .bool false, .int .u64 0, .slice none 0 0, .slice none 0 0, .slice none 0 0, .slice none 0 0] 46)).heap.size = wr.heap.size + 1 := World.size_alloc ..
          have z2 : ((wr.alloc (.cells #[.int .i64 3, .string ⟨#[]⟩, .bool false, .int .u64 0, .slice none 0 0, .slice none 0 0, .slice none 0 0, .slice none 0 0] 46)).alloc (.cells #[.string ⟨#[102]⟩, .slice av j cc, .int .i64 3, .string ⟨#[]⟩, .bool false, .int .u64 0, .slice none 0 0, .slice none 0 0, .slice none 0 0, .slice none 0 0] 48)).heap.size = wr.heap.size + 1 + 1 := by rw [World.size_alloc, z1]
          have hh := heap_alloc_new ((wr.alloc (.cells #[.int .i64 3, .string ⟨#[]⟩, .bool false, .int .u64 0, .slice none 0 0, .slice none 0 0, .slice none 0 0, .slice none 0 0] 46)).alloc (.cells #[.string ⟨#[102]⟩, .slice av j cc, .int .i64 3, .string ⟨#[]⟩, .bool false, .int .u64 0, .slice none 0 0, .slice none 0 0, .slice none 0 0, .slice none 0 0] 48)) (.cells #[.string ⟨#[102]⟩, .slice av j cc, .int .i64 3, .string ⟨#[]⟩, .bool false, .int .u64 0, .slice none 0 0, .slice none 0 0, .slice none 0 0, .slice none 0 0, .string ⟨#[109, 97, 105, 110]⟩, .slice none 0 0, .int .i64 3, .string ⟨#[]⟩, .bool false, .int .u64 0, .slice none 0 0, .slice none 0 0, .slice none 0 0, .slice none 0 0] 48)
          rw [z2] at hh
          have HB0 := Hd (((BoxW.alloc wr #[.int .i64 3, .string ⟨#[]⟩, .bool false, .int .u64 0, .slice none 0 0, .slice none 0 0, .slice none 0 0, .slice none 0 0] 46).below (more1 (wr.alloc (.cells #[.int .i64 3, .string ⟨#[]⟩, .bool false, .int .u64 0, .slice none 0 0, .slice none 0 0, .slice none 0 0, .slice none 0 0] 46)) (.cells #[.string ⟨#[102]⟩, .slice av j cc, .int .i64 3, .string ⟨#[]⟩, .bool false, .int .u64 0, .slice none 0 0, .slice none 0 0, .slice none 0 0, .slice none 0 0] 48))).below (more1 ((wr.alloc (.cells #[.int .i64 3, .string ⟨#[]⟩, .bool false, .int .u64 0, .slice none 0 0, .slice none 0 0, .slice none 0 0, .slice none 0 0] 46)).alloc (.cells #[.string ⟨#[102]⟩, .slice av j cc, .int .i64 3, .string ⟨#[]⟩, .bool false, .int .u64 0, .slice none 0 0, .slice none 0 0, .slice none 0 0, .slice none 0 0] 48)) (.cells #[.string ⟨#[102]⟩, .slice av j cc, .int .i64 3, .string ⟨#[]⟩, .bool false, .int .u64 0, .slice none 0 0, .slice none 0 0, .slice none 0 0, .slice none 0 0, .string ⟨#[109, 97, 105, 110]⟩, .slice none 0 0, .int .i64 3, .string ⟨#[]⟩, .bool false, .int .u64 0, .slice none 0 0, .slice none 0 0, .slice none 0 0, .slice none 0 0] 48)))
          have hname : RowAt (((wr.alloc (.cells #[.int .i64 3, .string ⟨#[]⟩, .bool false, .int .u64 0, .slice none 0 0, .slice none 0 0, .slice none 0 0, .slice none 0 0] 46)).alloc (.cells #[.string ⟨#[102]⟩, .slice av j cc, .int .i64 3, .string ⟨#[]⟩, .bool false, .int .u64 0, .slice none 0 0, .slice none 0 0, .slice none 0 0, .slice none 0 0] 48)).alloc (.cells #[.string ⟨#[102]⟩, .slice av j cc, .int .i64 3, .string ⟨#[]⟩, .bool false, .int .u64 0, .slice none 0 0, .slice none 0 0, .slice none 0 0, .slice none 0 0, .string ⟨#[109, 97, 105, 110]⟩, .slice none 0 0, .int .i64 3, .string ⟨#[]⟩, .bool false, .int .u64 0, .slice none 0 0, .slice none 0 0, .slice none 0 0, .slice none 0 0] 48)) (fun _ => True) 9 1 (.slice av j cc) j (namesV (nmsA j)) := (RowAt.of HW.out.1.v (fun _ _ => trivial)).move fun g _ lt => ⟨trivial, n3.block g lt⟩
          have hmod : ModAt (((wr.alloc (.cells #[.int .i64 3, .string ⟨#[]⟩, .bool false, .int .u64 0, .slice none 0 0, .slice none 0 0, .slice none 0 0, .slice none 0 0] 46)).alloc (.cells #[.string ⟨#[102]⟩, .slice av j cc, .int .i64 3, .string ⟨#[]⟩, .bool false, .int .u64 0, .slice none 0 0, .slice none 0 0, .slice none 0 0, .slice none 0 0] 48)).alloc (.cells #[.string ⟨#[102]⟩, .slice av j cc, .int .i64 3, .string ⟨#[]⟩, .bool false, .int .u64 0, .slice none 0 0, .slice none 0 0, .slice none 0 0, .slice none 0 0, .string ⟨#[109, 97, 105, 110]⟩, .slice none 0 0, .int .i64 3, .string ⟨#[]⟩, .bool false, .int .u64 0, .slice none 0 0, .slice none 0 0, .slice none 0 0, .slice none 0 0] 48)) (fun _ => True) (modF j) none 0 (some ⟨wr.heap.size + 1 + 1, 0, none⟩) 2 := modF_at hname hh
          have HC := Hd (acheck_any (modF j) (modF_ok ⟨j, h61⟩) (none_fo (modF_ar ⟨j, h61⟩).1) (fun _ h => by cases h) none 0 (some ⟨wr.heap.size + 1 + 1, 0, none⟩) 2 _ (((wr.alloc (.cells #[.int .i64 3, .string ⟨#[]⟩, .bool false, .int .u64 0, .slice none 0 0, .slice none 0 0, .slice none 0 0, .slice none 0 0] 46)).alloc (.cells #[.string ⟨#[102]⟩, .slice av j cc, .int .i64 3, .string ⟨#[]⟩, .bool false, .int .u64 0, .slice none 0 0, .slice none 0 0, .slice none 0 0, .slice none 0 0] 48)).alloc (.cells #[.string ⟨#[102]⟩, .slice av j cc, .int .i64 3, .string ⟨#[]⟩, .bool false, .int .u64 0, .slice none 0 0, .slice none 0 0, .slice none 0 0, .slice none 0 0, .string ⟨#[109, 97, 105, 110]⟩, .slice none 0 0, .int .i64 3, .string ⟨#[]⟩, .bool false, .int .u64 0, .slice none 0 0, .slice none 0 0, .slice none 0 0, .slice none 0 0] 48)) hmod (H1.out.2.below (onB' HW.out.2 n3)))
          rw [show arM (modF j) = none from (modF_ar ⟨j, h61⟩).2.trans (if_neg g24)] at HC
          have HX := Hd (Ai n3 (onB' HW.out.2 n3))
          clear hmod hname hh n1 n2 n3 z1 z2
          go_wp2_with fail
          refine HC.out.mono ?_
          rintro e w5 ⟨rfl, hb5⟩
          have ea : stN none = (0, []) := rfl
          rw [ea]
          clear ea
          have hst5 := HW.out.1.below (onB' HX.out.1 hb5)
          have hb0 := HB0.out.below hb5
          have q0 : w5.cell? ⟨wr.heap.size, 0, none⟩ = some (.int .i64 3) := hb0.1 0 _ rfl
          have q1 : w5.cell? ⟨wr.heap.size, 1, none⟩ = some (.string ⟨#[]⟩) := hb0.1 1 _ rfl
          have q2 : w5.cell? ⟨wr.heap.size, 2, none⟩ = some (.bool false) := hb0.1 2 _ rfl
          have q3 : w5.cell? ⟨wr.heap.size, 3, none⟩ = some (.int .u64 0) := hb0.1 3 _ rfl
          have q4 : w5.cell? ⟨wr.heap.size, 4, none⟩ = some (.slice none 0 0) := hb0.1 4 _ rfl
          have q5 : w5.cell? ⟨wr.heap.size, 5, none⟩ = some (.slice none 0 0) := hb0.1 5 _ rfl
          have q6 : w5.cell? ⟨wr.heap.size, 6, none⟩ = some (.slice none 0 0) := hb0.1 6 _ rfl
          have q7 : w5.cell? ⟨wr.heap.size, 7, none⟩ = some (.slice none 0 0) := hb0.1 7 _ rfl
          have r0 : w5.cell? ⟨w1.heap.size + 1, 0, none⟩ = some (.int .i64 4) := hst5.x.1 0 _ rfl
          have r1 : w5.cell? ⟨w1.heap.size + 1, 1, none⟩ = some (.string ⟨#[]⟩) := hst5.x.1 1 _ rfl
          have r2 : w5.cell? ⟨w1.heap.size + 1, 2, none⟩ = some (.bool false) := hst5.x.1 2 _ rfl
          have r3 : w5.cell? ⟨w1.heap.size + 1, 3, none⟩ = some (.int .u64 0) := hst5.x.1 3 _ rfl
          have r4 : w5.cell? ⟨w1.heap.size + 1, 4, none⟩ = some (.slice none 0 0) := hst5.x.1 4 _ rfl
          have r5 : w5.cell? ⟨w1.heap.size + 1, 5, none⟩ = some (.slice ak (1 + j) ck) := hst5.x.1 5 _ rfl
          have r6 : w5.cell? ⟨w1.heap.size + 1, 6, none⟩ = some (.slice none 0 0) := hst5.x.1 6 _ rfl
          have r7 : w5.cell? ⟨w1.heap.size + 1, 7, none⟩ = some (.slice none 0 0) := hst5.x.1 7 _ rfl
          have ng := more1 w5 (.cells #[.string ⟨#[102]⟩, .slice none 0 0, .int .i64 3, .string ⟨#[]⟩, .bool false, .int .u64 0, .slice none 0 0, .slice none 0 0, .slice none 0 0, .slice none 0 0, .string ⟨#[109, 97, 105, 110]⟩, .slice none 0 0, .int .i64 4, .string ⟨#[]⟩, .bool false, .int .u64 0, .slice none 0 0, .slice ak (1 + j) ck, .slice none 0 0, .slice none 0 0] 48)
          have HG := Hd (acheck_any (modG j) (modG_ok ⟨j, h61⟩) (none_fo (modG_ar ⟨j, h61⟩).1) (fun _ h => by cases h) none 0 (some ⟨w5.heap.size, 0, none⟩) 2 _ (w5.alloc (.cells #[.string ⟨#[102]⟩, .slice none 0 0, .int .i64 3, .string ⟨#[]⟩, .bool false, .int .u64 0, .slice none 0 0, .slice none 0 0, .slice none 0 0, .slice none 0 0, .string ⟨#[109, 97, 105, 110]⟩, .slice none 0 0, .int .i64 4, .string ⟨#[]⟩, .bool false, .int .u64 0, .slice none 0 0, .slice ak (1 + j) ck, .slice none 0 0, .slice none 0 0] 48)) (modG_at ((RowAt.of (hst5.below ng).k (fun _ _ => trivial))) (heap_alloc_new w5 (.cells #[.string ⟨#[102]⟩, .slice none 0 0, .int .i64 3, .string ⟨#[]⟩, .bool false, .int .u64 0, .slice none 0 0, .slice none 0 0, .slice none 0 0, .slice none 0 0, .string ⟨#[109, 97, 105, 110]⟩, .slice none 0 0, .int .i64 4, .string ⟨#[]⟩, .bool false, .int .u64 0, .slice none 0 0, .slice ak (1 + j) ck, .slice none 0 0, .slice none 0 0] 48))) (H1.out.2.below (onB' (onB' HX.out.2 hb5) ng)))
          rw [show arM (modG j) = none from (modG_ar ⟨j, h61⟩).2.trans (if_neg g24)] at HG
          have HY := Hd (onB' (onB' HX.out.2 hb5) ng)
          clear ng hst5 hb0 hb5 HC HX HB0
          go_wp2_with fail
          refine HG.out.mono ?_
          rintro e w6 ⟨rfl, hb6⟩
          have HZ := Hd (onB' H1.out.1 (onB' HY.out hb6))
          have ea : stN none = (0, []) := rfl
          rw [ea]
          clear ea hb6 HG
          have f24 : decide ((24 : Int) < (j : Int)) = false := decide_eq_false (by omega)
          go_wp2_with fail
          go_ret
          exact ⟨rfl, HZ.out⟩
        | true =>
          have n1 := more1 wr (.cells #[.int .i64 3, .string ⟨#[]⟩, .bool false, .int .u64 0, .slice none 0 0, .slice none 0 0, .slice none 0 0, .slice none 0 0] 46)
          have n2 := n1.alloc n1.size (.cells #[.string ⟨#[102]⟩, .slice none 0 0, .int .i64 8, .string ⟨#[]⟩, .bool false, .int .u64 0, .slice av j cc, .slice (some ⟨wr.heap.size + 1 + 1, 0, none⟩) 1 1, .slice none 0 0, .slice none 0 0] 48)
          have n3 := n2.alloc n2.size (.cells #[.int .i64 3, .string ⟨#[]⟩, .bool false, .int .u64 0, .slice none 0 0, .slice none 0 0, .slice none 0 0, .slice none 0 0] 46)
          have n4 := n3.alloc n3.size (.cells #[.string ⟨#[102]⟩, .slice none 0 0, .int .i64 8, .string ⟨#[]⟩, .bool false, .int .u64 0, .slice av j cc, .slice (some ⟨wr.heap.size + 1 + 1, 0, none⟩) 1 1, .slice none 0 0, .slice none 0 0, .string ⟨#[109, 97, 105, 110]⟩, .slice none 0 0, .int .i64 3, .string ⟨#[]⟩, .bool false, .int .u64 0, .slice none 0 0, .slice none 0 0, .slice none 0 0, .slice none 0 0] 48)
          have z1 : (wr.alloc (.cells #[.int .i64 3, .string ⟨#[]⟩, .bool false, .int .u64 0, .slice none 0 0, .slice none 0 0, .slice none 0 0, .slice none 0 0] 46)).heap.size = wr.heap.size + 1 := World.size_alloc ..
          have z2 : ((wr.alloc (.cells #[.int .i64 3, .string ⟨#[]⟩, .bool false, .int .u64 0, .slice none 0 0, .slice none 0 0, .slice none 0 0, .slice none 0 0] 46)).alloc (.cells #[.string ⟨#[102]⟩, .slice none 0 0, .int .i64 8, .string ⟨#[]⟩, .bool false, .int .u64 0, .slice av j cc, .slice (some ⟨wr.heap.size + 1 + 1, 0, none⟩) 1 1, .slice none 0 0, .slice none 0 0] 48)).heap.size = wr.heap.size + 1 + 1 := by rw [World.size_alloc, z1]
          have z3 : (((wr.alloc (.cells #[.int .i64 3, .string ⟨#[]⟩, .bool false, .int .u64 0, .slice none 0 0, .slice none 0 0, .slice none 0 0, .slice none 0 0] 46)).alloc (.cells #[.string ⟨#[102]⟩, .slice none 0 0, .int .i64 8, .string ⟨#[]⟩, .bool false, .int .u64 0, .slice av j cc, .slice (some ⟨wr.heap.size + 1 + 1, 0, none⟩) 1 1, .slice none 0 0, .slice none 0 0] 48)).alloc (.cells #[.int .i64 3, .string ⟨#[]⟩, .bool false, .int .u64 0, .slice none 0 0, .slice none 0 0, .slice none 0 0, .slice none 0 0] 46)).heap.size = wr.heap.size + 1 + 1 + 1 := by rw [World.size_alloc, z2]
          have hh := heap_alloc_new (((wr.alloc (.cells #[.int .i64 3, .string ⟨#[]⟩, .bool false, .int .u64 0, .slice none 0 0, .slice none 0 0, .slice none 0 0, .slice none 0 0] 46)).alloc (.cells #[.string ⟨#[102]⟩, .slice none 0 0, .int .i64 8, .string ⟨#[]⟩, .bool false, .int .u64 0, .slice av j cc, .slice (some ⟨wr.heap.size + 1 + 1, 0, none⟩) 1 1, .slice none 0 0, .slice none 0 0] 48)).alloc (.cells #[.int .i64 3, .string ⟨#[]⟩, .bool false, .int .u64 0, .slice none 0 0, .slice none 0 0, .slice none 0 0, .slice none 0 0] 46)) (.cells #[.string ⟨#[102]⟩, .slice none 0 0, .int .i64 8, .string ⟨#[]⟩, .bool false, .int .u64 0, .slice av j cc, .slice (some ⟨wr.heap.size + 1 + 1, 0, none⟩) 1 1, .slice none 0 0, .slice none 0 0, .string ⟨#[109, 97, 105, 110]⟩, .slice none 0 0, .int .i64 3, .string ⟨#[]⟩, .bool false, .int .u64 0, .slice none 0 0, .slice none 0 0, .slice none 0 0, .slice none 0 0] 48)
          rw [z3] at hh
          have HB0 := Hd ((((BoxW.alloc wr #[.int .i64 3, .string ⟨#[]⟩, .bool false, .int .u64 0, .slice none 0 0, .slice none 0 0, .slice none 0 0, .slice none 0 0] 46).below (more1 (wr.alloc (.cells #[.int .i64 3, .string ⟨#[]⟩, .bool false, .int .u64 0, .slice none 0 0, .slice none 0 0, .slice none 0 0, .slice none 0 0] 46)) (.cells #[.string ⟨#[102]⟩, .slice none 0 0, .int .i64 8, .string ⟨#[]⟩, .bool false, .int .u64 0, .slice av j cc, .slice (some ⟨wr.heap.size + 1 + 1, 0, none⟩) 1 1, .slice none 0 0, .slice none 0 0] 48))).below (more1 ((wr.alloc (.cells #[.int .i64 3, .string ⟨#[]⟩, .bool false, .int .u64 0, .slice none 0 0, .slice none 0 0, .slice none 0 0, .slice none 0 0] 46)).alloc (.cells #[.string ⟨#[102]⟩, .slice none 0 0, .int .i64 8, .string ⟨#[]⟩, .bool false, .int .u64 0, .slice av j cc, .slice (some ⟨wr.heap.size + 1 + 1, 0, none⟩) 1 1, .slice none 0 0, .slice none 0 0] 48)) (.cells #[.int .i64 3, .string ⟨#[]⟩, .bool false, .int .u64 0, .slice none 0 0, .slice none 0 0, .slice none 0 0, .slice none 0 0] 46))).below (more1 (((wr.alloc (.cells #[.int .i64 3, .string ⟨#[]⟩, .bool false, .int .u64 0, .slice none 0 0, .slice none 0 0, .slice none 0 0, .slice none 0 0] 46)).alloc (.cells #[.string ⟨#[102]⟩, .slice none 0 0, .int .i64 8, .string ⟨#[]⟩, .bool false, .int .u64 0, .slice av j cc, .slice (some ⟨wr.heap.size + 1 + 1, 0, none⟩) 1 1, .slice none 0 0, .slice none 0 0] 48)).alloc (.cells #[.int .i64 3, .string ⟨#[]⟩, .bool false, .int .u64 0, .slice none 0 0, .slice none 0 0, .slice none 0 0, .slice none 0 0] 46)) (.cells #[.string ⟨#[102]⟩, .slice none 0 0, .int .i64 8, .string ⟨#[]⟩, .bool false, .int .u64 0, .slice av j cc, .slice (some ⟨wr.heap.size + 1 + 1, 0, none⟩) 1 1, .slice none 0 0, .slice none 0 0, .string ⟨#[109, 97, 105, 110]⟩, .slice none 0 0, .int .i64 3, .string ⟨#[]⟩, .bool false, .int .u64 0, .slice none 0 0, .slice none 0 0, .slice none 0 0, .slice none 0 0] 48)))
          have hk1 := heap_alloc_new ((wr.alloc (.cells #[.int .i64 3, .string ⟨#[]⟩, .bool false, .int .u64 0, .slice none 0 0, .slice none 0 0, .slice none 0 0, .slice none 0 0] 46)).alloc (.cells #[.string ⟨#[102]⟩, .slice none 0 0, .int .i64 8, .string ⟨#[]⟩, .bool false, .int .u64 0, .slice av j cc, .slice (some ⟨wr.heap.size + 1 + 1, 0, none⟩) 1 1, .slice none 0 0, .slice none 0 0] 48)) (.cells #[.int .i64 3, .string ⟨#[]⟩, .bool false, .int .u64 0, .slice none 0 0, .slice none 0 0, .slice none 0 0, .slice none 0 0] 46)
          rw [z2] at hk1
          have hk2 := ((more1 (((wr.alloc (.cells #[.int .i64 3, .string ⟨#[]⟩, .bool false, .int .u64 0, .slice none 0 0, .slice none 0 0, .slice none 0 0, .slice none 0 0] 46)).alloc (.cells #[.string ⟨#[102]⟩, .slice none 0 0, .int .i64 8, .string ⟨#[]⟩, .bool false, .int .u64 0, .slice av j cc, .slice (some ⟨wr.heap.size + 1 + 1, 0, none⟩) 1 1, .slice none 0 0, .slice none 0 0] 48)).alloc (.cells #[.int .i64 3, .string ⟨#[]⟩, .bool false, .int .u64 0, .slice none 0 0, .slice none 0 0, .slice none 0 0, .slice none 0 0] 46)) (.cells #[.string ⟨#[102]⟩, .slice none 0 0, .int .i64 8, .string ⟨#[]⟩, .bool false, .int .u64 0, .slice av j cc, .slice (some ⟨wr.heap.size + 1 + 1, 0, none⟩) 1 1, .slice none 0 0, .slice none 0 0, .string ⟨#[109, 97, 105, 110]⟩, .slice none 0 0, .int .i64 3, .string ⟨#[]⟩, .bool false, .int .u64 0, .slice none 0 0, .slice none 0 0, .slice none 0 0, .slice none 0 0] 48)).block (wr.heap.size + 1 + 1) (by rw [z3]; omega)).trans hk1
          have hname : RowAt ((((wr.alloc (.cells #[.int .i64 3, .string ⟨#[]⟩, .bool false, .int .u64 0, .slice none 0 0, .slice none 0 0, .slice none 0 0, .slice none 0 0] 46)).alloc (.cells #[.string ⟨#[102]⟩, .slice none 0 0, .int .i64 8, .string ⟨#[]⟩, .bool false, .int .u64 0, .slice av j cc, .slice (some ⟨wr.heap.size + 1 + 1, 0, none⟩) 1 1, .slice none 0 0, .slice none 0 0] 48)).alloc (.cells #[.int .i64 3, .string ⟨#[]⟩, .bool false, .int .u64 0, .slice none 0 0, .slice none 0 0, .slice none 0 0, .slice none 0 0] 46)).alloc (.cells #[.string ⟨#[102]⟩, .slice none 0 0, .int .i64 8, .string ⟨#[]⟩, .bool false, .int .u64 0, .slice av j cc, .slice (some ⟨wr.heap.size + 1 + 1, 0, none⟩) 1 1, .slice none 0 0, .slice none 0 0, .string ⟨#[109, 97, 105, 110]⟩, .slice none 0 0, .int .i64 3, .string ⟨#[]⟩, .bool false, .int .u64 0, .slice none 0 0, .slice none 0 0, .slice none 0 0, .slice none 0 0] 48)) (fun _ => True) 9 1 (.slice av j cc) j (namesV (nmsA j)) := (RowAt.of HW.out.1.v (fun _ _ => trivial)).move fun g _ lt => ⟨trivial, n4.block g lt⟩
          have hmod : ModAt ((((wr.alloc (.cells #[.int .i64 3, .string ⟨#[]⟩, .bool false, .int .u64 0, .slice none 0 0, .slice none 0 0, .slice none 0 0, .slice none 0 0] 46)).alloc (.cells #[.string ⟨#[102]⟩, .slice none 0 0, .int .i64 8, .string ⟨#[]⟩, .bool false, .int .u64 0, .slice av j cc, .slice (some ⟨wr.heap.size + 1 + 1, 0, none⟩) 1 1, .slice none 0 0, .slice none 0 0] 48)).alloc (.cells #[.int .i64 3, .string ⟨#[]⟩, .bool false, .int .u64 0, .slice none 0 0, .slice none 0 0, .slice none 0 0, .slice none 0 0] 46)).alloc (.cells #[.string ⟨#[102]⟩, .slice none 0 0, .int .i64 8, .string ⟨#[]⟩, .bool false, .int .u64 0, .slice av j cc, .slice (some ⟨wr.heap.size + 1 + 1, 0, none⟩) 1 1, .slice none 0 0, .slice none 0 0, .string ⟨#[109, 97, 105, 110]⟩, .slice none 0 0, .int .i64 3, .string ⟨#[]⟩, .bool false, .int .u64 0, .slice none 0 0, .slice none 0 0, .slice none 0 0, .slice none 0 0] 48)) (fun _ => True) (modL' j) none 0 (some ⟨wr.heap.size + 1 + 1 + 1, 0, none⟩) 2 := modL_at' hname (row_of hk2 rfl (by decide)) hh
          have HC := Hd (acheck_any (modL' j) (modL_ok' ⟨j, h61⟩) (none_fo (modL_ar' ⟨j, h61⟩ h0).1) (fun _ h => by cases h) none 0 (some ⟨wr.heap.size + 1 + 1 + 1, 0, none⟩) 2 _ ((((wr.alloc (.cells #[.int .i64 3, .string ⟨#[]⟩, .bool false, .int .u64 0, .slice none 0 0, .slice none 0 0, .slice none 0 0, .slice none 0 0] 46)).alloc (.cells #[.string ⟨#[102]⟩, .slice none 0 0, .int .i64 8, .string ⟨#[]⟩, .bool false, .int .u64 0, .slice av j cc, .slice (some ⟨wr.heap.size + 1 + 1, 0, none⟩) 1 1, .slice none 0 0, .slice none 0 0] 48)).alloc (.cells #[.int .i64 3, .string ⟨#[]⟩, .bool false, .int .u64 0, .slice none 0 0, .slice none 0 0, .slice none 0 0, .slice none 0 0] 46)).alloc (.cells #[.string ⟨#[102]⟩, .slice none 0 0, .int .i64 8, .string ⟨#[]⟩, .bool false, .int .u64 0, .slice av j cc, .slice (some ⟨wr.heap.size + 1 + 1, 0, none⟩) 1 1, .slice none 0 0, .slice none 0 0, .string ⟨#[109, 97, 105, 110]⟩, .slice none 0 0, .int .i64 3, .string ⟨#[]⟩, .bool false, .int .u64 0, .slice none 0 0, .slice none 0 0, .slice none 0 0, .slice none 0 0] 48)) hmod (H1.out.2.below (onB' HW.out.2 n4)))
          rw [show arM (modL' j) = none from (modL_ar' ⟨j, h61⟩ h0).2.trans (if_neg g24)] at HC
          have HX := Hd (Ai n4 (onB' HW.out.2 n4))
          clear hmod hname hh n1 n2 n3 n4 z1 z2 z3 hk1 hk2
          go_wp2_with fail
          refine HC.out.mono ?_
          rintro e w5 ⟨rfl, hb5⟩
          have ea : stN none = (0, []) := rfl
          rw [ea]
          clear ea
          have hst5 := HW.out.1.below (onB' HX.out.1 hb5)
          have hb0 := HB0.out.below hb5
          have q0 : w5.cell? ⟨wr.heap.size, 0, none⟩ = some (.int .i64 3) := hb0.1 0 _ rfl
          have q1 : w5.cell? ⟨wr.heap.size, 1, none⟩ = some (.string ⟨#[]⟩) := hb0.1 1 _ rfl
          have q2 : w5.cell? ⟨wr.heap.size, 2, none⟩ = some (.bool false) := hb0.1 2 _ rfl
          have q3 : w5.cell? ⟨wr.heap.size, 3, none⟩ = some (.int .u64 0) := hb0.1 3 _ rfl
          have q4 : w5.cell? ⟨wr.heap.size, 4, none⟩ = some (.slice none 0 0) := hb0.1 4 _ rfl
          have q5 : w5.cell? ⟨wr.heap.size, 5, none⟩ = some (.slice none 0 0) := hb0.1 5 _ rfl
          have q6 : w5.cell? ⟨wr.heap.size, 6, none⟩ = some (.slice none 0 0) := hb0.1 6 _ rfl
          have q7 : w5.cell? ⟨wr.heap.size, 7, none⟩ = some (.slice none 0 0) := hb0.1 7 _ rfl
          have r0 : w5.cell? ⟨w1.heap.size + 1, 0, none⟩ = some (.int .i64 4) := hst5.x.1 0 _ rfl
          have r1 : w5.cell? ⟨w1.heap.size + 1, 1, none⟩ = some (.string ⟨#[]⟩) := hst5.x.1 1 _ rfl
          have r2 : w5.cell? ⟨w1.heap.size + 1, 2, none⟩ = some (.bool false) := hst5.x.1 2 _ rfl
          have r3 : w5.cell? ⟨w1.heap.size + 1, 3, none⟩ = some (.int .u64 0) := hst5.x.1 3 _ rfl
          have r4 : w5.cell? ⟨w1.heap.size + 1, 4, none⟩ = some (.slice none 0 0) := hst5.x.1 4 _ rfl
          have r5 : w5.cell? ⟨w1.heap.size + 1, 5, none⟩ = some (.slice ak (1 + j) ck) := hst5.x.1 5 _ rfl
          have r6 : w5.cell? ⟨w1.heap.size + 1, 6, none⟩ = some (.slice none 0 0) := hst5.x.1 6 _ rfl
          have r7 : w5.cell? ⟨w1.heap.size + 1, 7, none⟩ = some (.slice none 0 0) := hst5.x.1 7 _ rfl
          have ng := more1 w5 (.cells #[.string ⟨#[102]⟩, .slice none 0 0, .int .i64 3, .string ⟨#[]⟩, .bool false, .int .u64 0, .slice none 0 0, .slice none 0 0, .slice none 0 0, .slice none 0 0, .string ⟨#[109, 97, 105, 110]⟩, .slice none 0 0, .int .i64 4, .string ⟨#[]⟩, .bool false, .int .u64 0, .slice none 0 0, .slice ak (1 + j) ck, .slice none 0 0, .slice none 0 0] 48)
          have HG := Hd (acheck_any (modG j) (modG_ok ⟨j, h61⟩) (none_fo (modG_ar ⟨j, h61⟩).1) (fun _ h => by cases h) none 0 (some ⟨w5.heap.size, 0, none⟩) 2 _ (w5.alloc (.cells #[.string ⟨#[102]⟩, .slice none 0 0, .int .i64 3, .string ⟨#[]⟩, .bool false, .int .u64 0, .slice none 0 0, .slice none 0 0, .slice none 0 0, .slice none 0 0, .string ⟨#[109, 97, 105, 110]⟩, .slice none 0 0, .int .i64 4, .string ⟨#[]⟩, .bool false, .int .u64 0, .slice none 0 0, .slice ak (1 + j) ck, .slice none 0 0, .slice none 0 0] 48)) (modG_at ((RowAt.of (hst5.below ng).k (fun _ _ => trivial))) (heap_alloc_new w5 (.cells #[.string ⟨#[102]⟩, .slice none 0 0, .int .i64 3, .string ⟨#[]⟩, .bool false, .int .u64 0, .slice none 0 0, .slice none 0 0, .slice none 0 0, .slice none 0 0, .string ⟨#[109, 97, 105, 110]⟩, .slice none 0 0, .int .i64 4, .string ⟨#[]⟩, .bool false, .int .u64 0, .slice none 0 0, .slice ak (1 + j) ck, .slice none 0 0, .slice none 0 0] 48))) (H1.out.2.below (onB' (onB' HX.out.2 hb5) ng)))
          rw [show arM (modG j) = none from (modG_ar ⟨j, h61⟩).2.trans (if_neg g24)] at HG
          have HY := Hd (onB' (onB' HX.out.2 hb5) ng)
          clear ng hst5 hb0 hb5 HC HX HB0
          go_wp2_with fail
          refine HG.out.mono ?_
          rintro e w6 ⟨rfl, hb6⟩
          have HZ := Hd (onB' H1.out.1 (onB' HY.out hb6))
          have ea : stN none = (0, []) := rfl
          rw [ea]
          clear ea hb6 HG
          have f24 : decide ((24 : Int) < (j : Int)) = false := decide_eq_false (by omega)
          go_wp2_with fail
          go_ret
          exact ⟨rfl, HZ.out⟩
end Go.Proofs.YtdjcdecbmeickaaDoor
