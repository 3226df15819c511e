import Derived.Test.YtdjcdecbmeickaaDoorMg23
namespace Go.Proofs.YtdjcdecbmeickaaDoor
set_option maxHeartbeats 64000000
set_option maxRecDepth 100000
open Go.RowKit Go.Lib
def repV : Nat → List Value
  | 0 => []
  | j + 1 => repV j ++ numV
def conA (kv : Value) : List Value := [.int .i64 2, .string ⟨#[67]⟩, .bool false, .int .u64 0, .slice none 0 0, kv, .slice none 0 0, .slice none 0 0]
def altA (nv : Value) : List Value := [.int .i64 0, .string ⟨#[67]⟩, .bool false, .int .u64 0, nv, .int .i64 3, .string ⟨#[]⟩, .bool false, .int .u64 0, .slice none 0 0, .slice none 0 0, .slice none 0 0, .slice none 0 0]
theorem below_set {w W : World} {b i : Nat} (h : Below w.heap.size w W) (hb : w.heap.size ≤ b) (v : Value) : Below w.heap.size w (W.setCell ⟨b, i, none⟩ v) := below_of_new h (set_grown ..) hb
theorem own_set {W : World} {base size n b i : Nat} {e : TypeId} {v : Value} {xs : List Value} (h : W.ownsRow base e size v n xs) (hb : b < base) (u : Value) : (W.setCell ⟨b, i, none⟩ u).ownsRow base e size v n xs := by
  obtain ⟨_, _, _, hl⟩ := own_shape h
  exact own_same h fun g hg => Below.heap_setCell _ _ _ _ (fun q => by have := hl g hg; have q2 : g = b := q; omega)
theorem BoxW.own {W W' : World} {p base size n : Nat} {e : TypeId} {v : Value} {cs xs : List Value} (h : BoxW W p cs) (lt : p < W.heap.size) (ho : W.ownsRow base e size v n xs) (hp : p < base) (hg : W.grownBy W' v.ownBlock) : BoxW W' p cs := by
  obtain ⟨_, _, _, hl⟩ := own_shape ho
  exact h.same lt (grown_blk hg lt fun q => by have := hl p q; omega)
theorem rep_at (W : World) (K : Nat → Prop) : ∀ j, ExsAt W K (List.replicate j oneX) (repV j)
  | 0 => .nil
  | j + 1 => by
    rw [List.replicate_succ']
    exact (rep_at W K j).snoc (one_at W K)
theorem decl_at {W : World} {B n : Nat} (h : W.heap[B]? = some (.cells #[.string ⟨#[67]⟩, .int .i64 n] 36 (0, 0))) : RowAt W (fun _ => True) 36 2 (.slice (some ⟨B, 0, none⟩) 1 1) 1 (declV [(nmC, (n : Int))]) := row_of h rfl (by decide)
theorem modK_at {W : World} {B1 B2 n j : Nat} {kv : Value} (hd : W.heap[B1]? = some (.cells #[.string ⟨#[67]⟩, .int .i64 n] 36 (0, 0))) (hk : RowAt W (fun _ => True) 46 8 kv j (repV j))
    (h : W.heap[B2]? = some (.cells (.string ⟨#[109, 97, 105, 110]⟩ :: .slice none 0 0 :: conA kv).toArray 48 (0, 0))) : ModAt W (fun _ => True) (modK n j) (some ⟨B1, 0, none⟩) 1 (some ⟨B2, 0, none⟩) 1 :=
  ⟨decl_at hd, _, row_of h rfl (by show 1 ≤ maxLen; decide), .cons mainL [] (.mk 2 nmC false 0 [] (List.replicate j oneX) [] []) [] _ (conA kv) [] (RowAt.nil _ _ _ _) (.mk 2 nmC false 0 [] (List.replicate j oneX) [] [] _ kv _ _ (repV j) [] [] (RowAt.nil _ _ _ _) (by rw [List.length_replicate]; exact hk) (RowAt.nil _ _ _ _) (RowAt.nil _ _ _ _) (rep_at W _ j) .nil .nil) .nil⟩
theorem nmsC_len (j : Nat) : (nmsC j).length = j := by unfold nmsC; simp
def caseV (vk va : Value) : List Value := [.int .i64 7, .string ⟨#[]⟩, .bool false, .int .u64 0, .slice none 0 0, vk, .slice none 0 0, va]
theorem modH_at {W : World} {B1 B2 B3 B4 n i : Nat} {nv : Value} (hd : W.heap[B1]? = some (.cells #[.string ⟨#[67]⟩, .int .i64 n] 36 (0, 0))) (hn : RowAt W (fun _ => True) 9 1 nv i (namesV (nmsC i)))
    (hk : W.heap[B3]? = some (.cells numV.toArray 46 (0, 0))) (ha : W.heap[B4]? = some (.cells (altA nv).toArray 52 (0, 0)))
    (h : W.heap[B2]? = some (.cells (.string ⟨#[109, 97, 105, 110]⟩ :: .slice none 0 0 :: caseV (.slice (some ⟨B3, 0, none⟩) 1 1) (.slice (some ⟨B4, 0, none⟩) 1 1)).toArray 48 (0, 0))) : ModAt W (fun _ => True) (modH n i) (some ⟨B1, 0, none⟩) 1 (some ⟨B2, 0, none⟩) 1 :=
  ⟨decl_at hd, _, row_of h rfl (by show 1 ≤ maxLen; decide), .cons mainL [] (.mk 7 [] false 0 [] [oneX] [] [(0, nmC, false, 0, nmsC i, oneX)]) [] _ (caseV (.slice (some ⟨B3, 0, none⟩) 1 1) (.slice (some ⟨B4, 0, none⟩) 1 1)) [] (RowAt.nil _ _ _ _)
    (.mk 7 [] false 0 [] [oneX] [] [(0, nmC, false, 0, nmsC i, oneX)] _ _ _ _ (numV ++ []) [] (altA nv ++ []) (RowAt.nil _ _ _ _) (row_of hk rfl (by decide)) (RowAt.nil _ _ _ _) (row_of ha rfl (by decide)) (ExsAt.cons _ [] _ [] (one_at W _) .nil) .nil (AltsAt.cons 0 nmC false 0 (nmsC i) oneX [] nv numV [] (by rw [nmsC_len]; exact hn) (one_at W _) .nil)) .nil⟩
theorem acounts_walk (a b c : Nat) (ha : a ≤ 255) (hb : b ≤ 255) (hc : c ≤ 255) (w : World) (hE : ErrT w) :
    Calls Tryd.prog 8 #[.int .u8 a, .int .u8 b, .int .u8 c] w fun e w' => e = .returned (.bool true) ∧ Below w.heap.size w w' := by
  have HE0 := Hd hE
  obtain ⟨n, h6n, hn⟩ : ∃ n : Nat, n < 6 ∧ (a : Int) % 6 = (n : Int) := ⟨a % 6, by omega, by omega⟩
  obtain ⟨k, h6k, hk⟩ : ∃ n : Nat, n < 6 ∧ (b : Int) % 6 = (n : Int) := ⟨b % 6, by omega, by omega⟩
  obtain ⟨m, h6m, hm⟩ : ∃ n : Nat, n < 6 ∧ (c : Int) % 6 = (n : Int) := ⟨c % 6, by omega, by omega⟩
  obtain ⟨i0, hi0, hz0, hzs, hzb⟩ := info_parts Tryd.info_text
  obtain ⟨i1, hi1, hy0, hys, hyb⟩ := info_parts Tryd.info_expr
  clear hE
  go_enter Tryd.func8, Tryd.ntmps8
  go_wp2_with fail
  refine (aawake_any w HE0.out).mono ?_
  rintro e w1 ⟨rfl, hb1⟩
  have H1 := Hd (Ai hb1 (HE0.out.below hb1))
  clear hb1
  go_wp2_with fail
  generalize hW : ((w1.alloc (.cells #[.int .i64 3, .string ⟨#[]⟩, .bool false, .int .u64 0, .slice none 0 0, .slice none 0 0, .slice none 0 0, .slice none 0 0] 46)).alloc (.cells #[.int .i64 2, .string ⟨#[67]⟩, .bool false, .int .u64 0, .slice none 0 0, .slice none 0 0, .slice none 0 0, .slice none 0 0] 46)) = W0
  clear hn hk hm ha hb hc
  go_loopw [12] (fun s wr => ∃ (j : Nat) (kv : Value), j ≤ k ∧ s = .int .i64 j ∧ BoxW wr w1.heap.size numV ∧ BoxW wr (w1.heap.size + 1) (conA kv) ∧ wr.ownsRow (w1.heap.size + 2) 46 8 kv j (repV j) ∧ Below w1.heap.size w1 wr) (fun s _ => k - (RowKit.intOf s).toNat)
  case atStart =>
    have n1 := more1 w1 (.cells #[.int .i64 3, .string ⟨#[]⟩, .bool false, .int .u64 0, .slice none 0 0, .slice none 0 0, .slice none 0 0, .slice none 0 0] 46)
    have n2 := n1.alloc n1.size (.cells #[.int .i64 2, .string ⟨#[67]⟩, .bool false, .int .u64 0, .slice none 0 0, .slice none 0 0, .slice none 0 0, .slice none 0 0] 46)
    have hz := show (w1.alloc (.cells #[.int .i64 3, .string ⟨#[]⟩, .bool false, .int .u64 0, .slice none 0 0, .slice none 0 0, .slice none 0 0, .slice none 0 0] 46)).heap.size = w1.heap.size + 1 from World.size_alloc ..
    have h0 := (BoxW.alloc w1 #[.int .i64 3, .string ⟨#[]⟩, .bool false, .int .u64 0, .slice none 0 0, .slice none 0 0, .slice none 0 0, .slice none 0 0] 46).below (more1 _ (.cells #[.int .i64 2, .string ⟨#[67]⟩, .bool false, .int .u64 0, .slice none 0 0, .slice none 0 0, .slice none 0 0, .slice none 0 0] 46))
    have h1 := BoxW.alloc (w1.alloc (.cells #[.int .i64 3, .string ⟨#[]⟩, .bool false, .int .u64 0, .slice none 0 0, .slice none 0 0, .slice none 0 0, .slice none 0 0] 46)) #[.int .i64 2, .string ⟨#[67]⟩, .bool false, .int .u64 0, .slice none 0 0, .slice none 0 0, .slice none 0 0, .slice none 0 0] 46
    rw [hz] at h1
    rw [← hW]
    exact ⟨0, .slice none 0 0, Nat.zero_le _, rfl, h0, h1, World.ownsRow_nil _ _ _ _, n2⟩
  case round =>
    obtain ⟨j, kv, hj, rfl, hx0, hx1, hown, hbr⟩ := hrel
    obtain ⟨ak, ck, rfl, hlow⟩ := own_shape hown
    by_cases gj : j < k
    · have gj' : (j : Int) < (k : Int) := by omega
      have ej : IntKind.i64.wrap ((j : Int) + 1) = (j : Int) + 1 := by rw [IntKind.wrap_i64]; omega
      have q0 := hx0.1 0 _ rfl
      have q1 := hx0.1 1 _ rfl
      have q2 := hx0.1 2 _ rfl
      have q3 := hx0.1 3 _ rfl
      have q4 := hx0.1 4 _ rfl
      have q5 := hx0.1 5 _ rfl
      have q6 := hx0.1 6 _ rfl
      have q7 := hx0.1 7 _ rfl
      have r5 := hx1.1 5 _ rfl
      have lt1 := Bl r5
      have m1 := more1 wr (.cells #[.int .i64 3, .string ⟨#[]⟩, .bool false, .int .u64 0, .slice none 0 0, .slice none 0 0, .slice none 0 0, .slice none 0 0] 46)
      have HO := Hd (Ai (own_below hown m1) (Ai (hx0.same (Bl q0) (m1.block _ (Bl q0))) (Ai (hx1.same lt1 (m1.block _ lt1)) (onB' hbr m1))))
      have one8 : ∀ u ∈ numV, u.oneCell' = true := by decide
      have c9 : j + 1 ≤ maxLen := by unfold maxLen; omega
      have c8 : (j + 1) * 136 ≤ 140737488355328 := by omega
      have hzr := hbr.size
      have hlt1 : w1.heap.size + 1 < wr.heap.size := lt1
      clear hx0 hx1 hown hbr m1 lt1
      go_wp2_with (at_builtin; refine wpList_append_lies _ rfl _ _ 43 rfl (w1.heap.size + 2) 46 i1 (.agg #[.int .i64 0, .string ⟨#[]⟩, .bool false, .int .u64 0, .slice none 0 0, .slice none 0 0, .slice none 0 0, .slice none 0 0]) 8 136 Tryd.underlying43 hi1 hy0 hys hyb rfl (by decide) (.slice ak j ck) j (repV j) rfl HO.out.1 ⟨wr.heap.size, 0, none⟩ 1 1 numV rfl rfl (World.news_of_block (heap_alloc_new _ _)) one8 (by decide) c9 c8 (by simp; omega) _ rfl ?_; intro g9 cap9 w9 o1 o2 o3 o4; have x9 := HO.out.2.2.1.own (by simp; omega) HO.out.1 (by omega) o2; have y9 := HO.out.2.1.own (by simp; omega) HO.out.1 (by omega) o2; have r5' := x9.1 5 _ rfl; have z5 := x9.2 5; have hb9 := Hd (below_own HO.out.2.2.2 o2 (fun g hg => by have := hlow g hg; omega)))
      exact ⟨⟨j + 1, _, by omega, by go_num, y9.far (by omega) _, x9.set 5 (by show 5 < 8; decide) _, own_set o1 (by omega) _, below_set hb9.out (by omega) _⟩, by simp [RowKit.intOf]; omega⟩
    · obtain rfl : j = k := by omega
      have HW := Hd (Ai hx0 (Ai hx1 (Ai hown hbr)))
      have q0 := hx0.1 0 _ rfl
      have q1 := hx0.1 1 _ rfl
      have q2 := hx0.1 2 _ rfl
      have q3 := hx0.1 3 _ rfl
      have q4 := hx0.1 4 _ rfl
      have q5 := hx0.1 5 _ rfl
      have q6 := hx0.1 6 _ rfl
      have q7 := hx0.1 7 _ rfl
      clear hx0 hx1 hown hbr
      generalize wr = wA at *
      go_wp2_with fail
      generalize hW2 : (wA.alloc (.cells #[.int .i64 0, .string ⟨#[67]⟩, .bool false, .int .u64 0, .slice none 0 0, .int .i64 3, .string ⟨#[]⟩, .bool false, .int .u64 0, .slice none 0 0, .slice none 0 0, .slice none 0 0, .slice none 0 0] 52)) = W2
      clear q0 q1 q2 q3 q4 q5 q6 q7
      have HW2 := Hd (show BoxW W2 wA.heap.size (altA (.slice none 0 0)) ∧ Below wA.heap.size wA W2 by rw [← hW2]; exact ⟨BoxW.alloc wA _ _, more1 wA _⟩)
      clear hW2
      go_loopw [14] (fun s wr => ∃ (i : Nat) (nv : Value), i ≤ m ∧ s = .int .i64 i ∧ BoxW wr wA.heap.size (altA nv) ∧ wr.ownsRow (wA.heap.size + 1) 9 1 nv i (namesV (nmsC i)) ∧ Below wA.heap.size wA wr) (fun s _ => m - (RowKit.intOf s).toNat)
      case atStart => exact ⟨0, .slice none 0 0, Nat.zero_le _, rfl, HW2.out.1, World.ownsRow_nil _ _ _ _, HW2.out.2⟩
      case round =>
        obtain ⟨i, nv, hi, rfl, hx1, hown, hbr⟩ := hrel
        obtain ⟨av, cc, rfl, hlow⟩ := own_shape hown
        by_cases gi : i < m
        · have gi' : (i : Int) < (m : Int) := by omega
          have ei : IntKind.i64.wrap ((i : Int) + 1) = (i : Int) + 1 := by rw [IntKind.wrap_i64]; omega
          have hcv := conv_one wr (97 + (i : Int))
          obtain ⟨s2, hs2⟩ : ∃ s2, s2 = tx [UInt8.ofNat (97 + (i : Int)).toNat] := ⟨_, rfl⟩
          rw [← hs2] at hcv
          have HS := Hd (show namesV (nmsC (i + 1)) = namesV (nmsC i) ++ [.string s2] by
            have e1 : nmsC (i + 1) = nmsC i ++ [[UInt8.ofNat (97 + i)]] := by unfold nmsC; rw [List.range_succ, List.map_append]; rfl
            have e2 : (97 + (i : Int)).toNat = 97 + i := by omega
            rw [e1, hs2, e2]
            unfold namesV
            rw [List.map_append]
            rfl)
          have r5 := hx1.1 4 _ rfl
          have lt1 := Bl r5
          have m1 := more1 wr (.cells #[.int .u8 (97 + (i : Int))] 5)
          have m2 := m1.alloc m1.size (.cells #[.string s2] 9)
          have HO := Hd (Ai (own_below hown m2) (Ai (hx1.same lt1 (m2.block _ lt1)) (onB' hbr m2)))
          have one1 : ∀ u ∈ [Value.string s2], u.oneCell' = true := fun u hu => by rw [List.mem_singleton.1 hu]; rfl
          have a9 : i + 1 ≤ maxLen := by unfold maxLen; omega
          have a8 : (i + 1) * 16 ≤ 140737488355328 := by omega
          have hzr := hbr.size
          have hlt1 : wA.heap.size < wr.heap.size := lt1
          have hz51 : (wr.alloc (.cells #[.int .u8 (97 + (i : Int))] 5)).heap.size = wr.heap.size + 1 := World.size_alloc ..
          have nw := World.news_of_block (heap_alloc_new (wr.alloc (.cells #[.int .u8 (97 + (i : Int))] 5)) (.cells #[.string s2] 9))
          rw [hz51] at nw
          have HN := Hd nw
          clear hs2 hx1 hown hbr m1 m2 lt1 hz51 nw
          go_wp2_with (at_builtin; refine wpList_append_lies _ rfl _ _ 39 rfl (wA.heap.size + 1) 9 i0 (.string ⟨#[]⟩) 1 16 Tryd.underlying39 hi0 hz0 hzs hzb rfl (by decide) (.slice av i cc) i (namesV (nmsC i)) rfl HO.out.1 ⟨wr.heap.size + 1, 0, none⟩ 1 1 [.string s2] rfl rfl HN.out one1 (by decide) a9 a8 (by simp; omega) _ rfl ?_; intro g9 cap9 w9 o1 o2 o3 o4; have x9 := HO.out.2.1.own (by simp; omega) HO.out.1 (by omega) o2; have r5' := x9.1 4 _ rfl; have z5 := x9.2 4; have hb9 := Hd (below_own HO.out.2.2 o2 (fun g hg => by have := hlow g hg; omega)))
          exact ⟨⟨i + 1, _, by omega, by go_num, x9.set 4 (by show 4 < 13; decide) _, by rw [HS.out]; exact own_set o1 (by omega) _, below_set hb9.out (by omega) _⟩, by simp [RowKit.intOf]; omega⟩
        · obtain rfl : i = m := by omega
          have HZ := Hd (Ai hx1 (Ai hown hbr))
          clear hx1 hown hbr
          by_cases e1 : n = j
          · by_cases e2 : n = i
            · have E1 := Hd e1
              have E2 := Hd e2
              clear e1 e2
              have hy0 := HW.out.1.same (Bl (HW.out.1.1 0 _ rfl)) (HZ.out.2.2.block _ (Bl (HW.out.1.1 0 _ rfl)))
              have hy1 := HW.out.2.1.same (Bl (HW.out.2.1.1 0 _ rfl)) (HZ.out.2.2.block _ (Bl (HW.out.2.1.1 0 _ rfl)))
              have hy2 := own_below HW.out.2.2.1 HZ.out.2.2
              have hyC := hy1.same (Bl (hy1.1 0 _ rfl)) ((more1 wr (.cells #[.string ⟨#[67]⟩, .int .i64 n] 36)).block _ (Bl (hy1.1 0 _ rfl)))
              have q0 : (wr.alloc (.cells #[.string ⟨#[67]⟩, .int .i64 n] 36)).cell? ⟨w1.heap.size + 1, 0, none⟩ = some (.int .i64 2) := hyC.1 0 _ rfl
              have q1 : (wr.alloc (.cells #[.string ⟨#[67]⟩, .int .i64 n] 36)).cell? ⟨w1.heap.size + 1, 1, none⟩ = some (.string ⟨#[67]⟩) := hyC.1 1 _ rfl
              have q2 : (wr.alloc (.cells #[.string ⟨#[67]⟩, .int .i64 n] 36)).cell? ⟨w1.heap.size + 1, 2, none⟩ = some (.bool false) := hyC.1 2 _ rfl
              have q3 : (wr.alloc (.cells #[.string ⟨#[67]⟩, .int .i64 n] 36)).cell? ⟨w1.heap.size + 1, 3, none⟩ = some (.int .u64 0) := hyC.1 3 _ rfl
              have q4 : (wr.alloc (.cells #[.string ⟨#[67]⟩, .int .i64 n] 36)).cell? ⟨w1.heap.size + 1, 4, none⟩ = some (.slice none 0 0) := hyC.1 4 _ rfl
              have q5 : (wr.alloc (.cells #[.string ⟨#[67]⟩, .int .i64 n] 36)).cell? ⟨w1.heap.size + 1, 5, none⟩ = some (.slice ak j ck) := hyC.1 5 _ rfl
              have q6 : (wr.alloc (.cells #[.string ⟨#[67]⟩, .int .i64 n] 36)).cell? ⟨w1.heap.size + 1, 6, none⟩ = some (.slice none 0 0) := hyC.1 6 _ rfl
              have q7 : (wr.alloc (.cells #[.string ⟨#[67]⟩, .int .i64 n] 36)).cell? ⟨w1.heap.size + 1, 7, none⟩ = some (.slice none 0 0) := hyC.1 7 _ rfl
              have n1 := more1 wr (.cells #[.string ⟨#[67]⟩, .int .i64 n] 36)
              have n2 := n1.alloc n1.size (.cells #[.string ⟨#[109, 97, 105, 110]⟩, .slice none 0 0, .int .i64 2, .string ⟨#[67]⟩, .bool false, .int .u64 0, .slice none 0 0, .slice ak j ck, .slice none 0 0, .slice none 0 0] 48)
              have z1 : (wr.alloc (.cells #[.string ⟨#[67]⟩, .int .i64 n] 36)).heap.size = wr.heap.size + 1 := World.size_alloc ..
              have hd := ((more1 (wr.alloc (.cells #[.string ⟨#[67]⟩, .int .i64 n] 36)) (.cells #[.string ⟨#[109, 97, 105, 110]⟩, .slice none 0 0, .int .i64 2, .string ⟨#[67]⟩, .bool false, .int .u64 0, .slice none 0 0, .slice ak j ck, .slice none 0 0, .slice none 0 0] 48)).block wr.heap.size (by rw [z1]; omega)).trans (heap_alloc_new wr (.cells #[.string ⟨#[67]⟩, .int .i64 n] 36))
              have hh := heap_alloc_new (wr.alloc (.cells #[.string ⟨#[67]⟩, .int .i64 n] 36)) (.cells #[.string ⟨#[109, 97, 105, 110]⟩, .slice none 0 0, .int .i64 2, .string ⟨#[67]⟩, .bool false, .int .u64 0, .slice none 0 0, .slice ak j ck, .slice none 0 0, .slice none 0 0] 48)
              rw [z1] at hh
              have hmod : ModAt ((wr.alloc (.cells #[.string ⟨#[67]⟩, .int .i64 n] 36)).alloc (.cells #[.string ⟨#[109, 97, 105, 110]⟩, .slice none 0 0, .int .i64 2, .string ⟨#[67]⟩, .bool false, .int .u64 0, .slice none 0 0, .slice ak j ck, .slice none 0 0, .slice none 0 0] 48)) (fun _ => True) (modK n j) (some ⟨wr.heap.size, 0, none⟩) 1 (some ⟨wr.heap.size + 1, 0, none⟩) 1 := modK_at hd ((RowAt.of hy2 (fun _ _ => trivial)).move fun g _ lt => ⟨trivial, n2.block g lt⟩) hh
              have HC := Hd (acheck_any (modK n j) (modK_ok ⟨n, h6n⟩ ⟨j, h6k⟩) (modK_fo ⟨n, h6n⟩ ⟨j, h6k⟩) (modC_ar ⟨n, h6n⟩) (some ⟨wr.heap.size, 0, none⟩) 1 (some ⟨wr.heap.size + 1, 0, none⟩) 1 _ ((wr.alloc (.cells #[.string ⟨#[67]⟩, .int .i64 n] 36)).alloc (.cells #[.string ⟨#[109, 97, 105, 110]⟩, .slice none 0 0, .int .i64 2, .string ⟨#[67]⟩, .bool false, .int .u64 0, .slice none 0 0, .slice ak j ck, .slice none 0 0, .slice none 0 0] 48)) hmod (H1.out.2.below (onB' HW.out.2.2.2 (onB' HZ.out.2.2 n2))))
              rw [show arM (modK n j) = none from (modK_ar ⟨n, h6n⟩ ⟨j, h6k⟩).2.trans (if_pos E1.out)] at HC
              have HX := Hd (Ai n2 (Ai hd (onB' HZ.out.2.2 n2)))
              have HY := Hd (Ai hy0 hy1)
              clear hy0 hy1 hyC hy2 n1 n2 z1 hd hh hmod
              go_wp2_with fail
              refine HC.out.mono ?_
              rintro e w5 ⟨rfl, hb5⟩
              have ea : stN none = (0, []) := rfl
              have eb : tx [] = ⟨#[]⟩ := rfl
              rw [ea, eb]
              clear ea eb
              have hq := onB' HX.out.1 hb5
              have g0 := HY.out.1.same (Bl (HY.out.1.1 0 _ rfl)) (hq.block _ (Bl (HY.out.1.1 0 _ rfl)))
              have g1 := HZ.out.1.same (Bl (HZ.out.1.1 0 _ rfl)) (hq.block _ (Bl (HZ.out.1.1 0 _ rfl)))
              have r0 : w5.cell? ⟨w1.heap.size, 0, none⟩ = some (.int .i64 3) := g0.1 0 _ rfl
              have r1 : w5.cell? ⟨w1.heap.size, 1, none⟩ = some (.string ⟨#[]⟩) := g0.1 1 _ rfl
              have r2 : w5.cell? ⟨w1.heap.size, 2, none⟩ = some (.bool false) := g0.1 2 _ rfl
              have r3 : w5.cell? ⟨w1.heap.size, 3, none⟩ = some (.int .u64 0) := g0.1 3 _ rfl
              have r4 : w5.cell? ⟨w1.heap.size, 4, none⟩ = some (.slice none 0 0) := g0.1 4 _ rfl
              have r5 : w5.cell? ⟨w1.heap.size, 5, none⟩ = some (.slice none 0 0) := g0.1 5 _ rfl
              have r6 : w5.cell? ⟨w1.heap.size, 6, none⟩ = some (.slice none 0 0) := g0.1 6 _ rfl
              have r7 : w5.cell? ⟨w1.heap.size, 7, none⟩ = some (.slice none 0 0) := g0.1 7 _ rfl
              have m1 := more1 w5 (.cells #[.int .i64 3, .string ⟨#[]⟩, .bool false, .int .u64 0, .slice none 0 0, .slice none 0 0, .slice none 0 0, .slice none 0 0] 46)
              have m2 := m1.alloc m1.size (.cells #[.int .i64 0, .string ⟨#[67]⟩, .bool false, .int .u64 0, .slice av i cc, .int .i64 3, .string ⟨#[]⟩, .bool false, .int .u64 0, .slice none 0 0, .slice none 0 0, .slice none 0 0, .slice none 0 0] 52)
              have m3 := m2.alloc m2.size (.cells #[.string ⟨#[109, 97, 105, 110]⟩, .slice none 0 0, .int .i64 7, .string ⟨#[]⟩, .bool false, .int .u64 0, .slice none 0 0, .slice (some ⟨w5.heap.size, 0, none⟩) 1 1, .slice none 0 0, .slice (some ⟨w5.heap.size + 1, 0, none⟩) 1 1] 48)
              have g2 := g1.same (Bl (g1.1 0 _ rfl)) (m1.block _ (Bl (g1.1 0 _ rfl)))
              have s0 : (w5.alloc (.cells #[.int .i64 3, .string ⟨#[]⟩, .bool false, .int .u64 0, .slice none 0 0, .slice none 0 0, .slice none 0 0, .slice none 0 0] 46)).cell? ⟨wA.heap.size, 0, none⟩ = some (.int .i64 0) := g2.1 0 _ rfl
              have s1 : (w5.alloc (.cells #[.int .i64 3, .string ⟨#[]⟩, .bool false, .int .u64 0, .slice none 0 0, .slice none 0 0, .slice none 0 0, .slice none 0 0] 46)).cell? ⟨wA.heap.size, 1, none⟩ = some (.string ⟨#[67]⟩) := g2.1 1 _ rfl
              have s2 : (w5.alloc (.cells #[.int .i64 3, .string ⟨#[]⟩, .bool false, .int .u64 0, .slice none 0 0, .slice none 0 0, .slice none 0 0, .slice none 0 0] 46)).cell? ⟨wA.heap.size, 2, none⟩ = some (.bool false) := g2.1 2 _ rfl
              have s3 : (w5.alloc (.cells #[.int .i64 3, .string ⟨#[]⟩, .bool false, .int .u64 0, .slice none 0 0, .slice none 0 0, .slice none 0 0, .slice none 0 0] 46)).cell? ⟨wA.heap.size, 3, none⟩ = some (.int .u64 0) := g2.1 3 _ rfl
              have s4 : (w5.alloc (.cells #[.int .i64 3, .string ⟨#[]⟩, .bool false, .int .u64 0, .slice none 0 0, .slice none 0 0, .slice none 0 0, .slice none 0 0] 46)).cell? ⟨wA.heap.size, 4, none⟩ = some (.slice av i cc) := g2.1 4 _ rfl
              have s5 : (w5.alloc (.cells #[.int .i64 3, .string ⟨#[]⟩, .bool false, .int .u64 0, .slice none 0 0, .slice none 0 0, .slice none 0 0, .slice none 0 0] 46)).cell? ⟨wA.heap.size, 5, none⟩ = some (.int .i64 3) := g2.1 5 _ rfl
              have s6 : (w5.alloc (.cells #[.int .i64 3, .string ⟨#[]⟩, .bool false, .int .u64 0, .slice none 0 0, .slice none 0 0, .slice none 0 0, .slice none 0 0] 46)).cell? ⟨wA.heap.size, 6, none⟩ = some (.string ⟨#[]⟩) := g2.1 6 _ rfl
              have s7 : (w5.alloc (.cells #[.int .i64 3, .string ⟨#[]⟩, .bool false, .int .u64 0, .slice none 0 0, .slice none 0 0, .slice none 0 0, .slice none 0 0] 46)).cell? ⟨wA.heap.size, 7, none⟩ = some (.bool false) := g2.1 7 _ rfl
              have s8 : (w5.alloc (.cells #[.int .i64 3, .string ⟨#[]⟩, .bool false, .int .u64 0, .slice none 0 0, .slice none 0 0, .slice none 0 0, .slice none 0 0] 46)).cell? ⟨wA.heap.size, 8, none⟩ = some (.int .u64 0) := g2.1 8 _ rfl
              have s9 : (w5.alloc (.cells #[.int .i64 3, .string ⟨#[]⟩, .bool false, .int .u64 0, .slice none 0 0, .slice none 0 0, .slice none 0 0, .slice none 0 0] 46)).cell? ⟨wA.heap.size, 9, none⟩ = some (.slice none 0 0) := g2.1 9 _ rfl
              have s10 : (w5.alloc (.cells #[.int .i64 3, .string ⟨#[]⟩, .bool false, .int .u64 0, .slice none 0 0, .slice none 0 0, .slice none 0 0, .slice none 0 0] 46)).cell? ⟨wA.heap.size, 10, none⟩ = some (.slice none 0 0) := g2.1 10 _ rfl
              have s11 : (w5.alloc (.cells #[.int .i64 3, .string ⟨#[]⟩, .bool false, .int .u64 0, .slice none 0 0, .slice none 0 0, .slice none 0 0, .slice none 0 0] 46)).cell? ⟨wA.heap.size, 11, none⟩ = some (.slice none 0 0) := g2.1 11 _ rfl
              have s12 : (w5.alloc (.cells #[.int .i64 3, .string ⟨#[]⟩, .bool false, .int .u64 0, .slice none 0 0, .slice none 0 0, .slice none 0 0, .slice none 0 0] 46)).cell? ⟨wA.heap.size, 12, none⟩ = some (.slice none 0 0) := g2.1 12 _ rfl
              have z1 : (w5.alloc (.cells #[.int .i64 3, .string ⟨#[]⟩, .bool false, .int .u64 0, .slice none 0 0, .slice none 0 0, .slice none 0 0, .slice none 0 0] 46)).heap.size = w5.heap.size + 1 := World.size_alloc ..
              have z2 : ((w5.alloc (.cells #[.int .i64 3, .string ⟨#[]⟩, .bool false, .int .u64 0, .slice none 0 0, .slice none 0 0, .slice none 0 0, .slice none 0 0] 46)).alloc (.cells #[.int .i64 0, .string ⟨#[67]⟩, .bool false, .int .u64 0, .slice av i cc, .int .i64 3, .string ⟨#[]⟩, .bool false, .int .u64 0, .slice none 0 0, .slice none 0 0, .slice none 0 0, .slice none 0 0] 52)).heap.size = w5.heap.size + 1 + 1 := by rw [World.size_alloc, z1]
              have k1 := heap_alloc_new w5 (.cells #[.int .i64 3, .string ⟨#[]⟩, .bool false, .int .u64 0, .slice none 0 0, .slice none 0 0, .slice none 0 0, .slice none 0 0] 46)
              have k2 := ((more1 (w5.alloc (.cells #[.int .i64 3, .string ⟨#[]⟩, .bool false, .int .u64 0, .slice none 0 0, .slice none 0 0, .slice none 0 0, .slice none 0 0] 46)) (.cells #[.int .i64 0, .string ⟨#[67]⟩, .bool false, .int .u64 0, .slice av i cc, .int .i64 3, .string ⟨#[]⟩, .bool false, .int .u64 0, .slice none 0 0, .slice none 0 0, .slice none 0 0, .slice none 0 0] 52)).block w5.heap.size (by rw [z1]; omega)).trans k1
              have k3 := ((more1 ((w5.alloc (.cells #[.int .i64 3, .string ⟨#[]⟩, .bool false, .int .u64 0, .slice none 0 0, .slice none 0 0, .slice none 0 0, .slice none 0 0] 46)).alloc (.cells #[.int .i64 0, .string ⟨#[67]⟩, .bool false, .int .u64 0, .slice av i cc, .int .i64 3, .string ⟨#[]⟩, .bool false, .int .u64 0, .slice none 0 0, .slice none 0 0, .slice none 0 0, .slice none 0 0] 52)) (.cells #[.string ⟨#[109, 97, 105, 110]⟩, .slice none 0 0, .int .i64 7, .string ⟨#[]⟩, .bool false, .int .u64 0, .slice none 0 0, .slice (some ⟨w5.heap.size, 0, none⟩) 1 1, .slice none 0 0, .slice (some ⟨w5.heap.size + 1, 0, none⟩) 1 1] 48)).block w5.heap.size (by rw [z2]; omega)).trans k2
              have a1 := heap_alloc_new (w5.alloc (.cells #[.int .i64 3, .string ⟨#[]⟩, .bool false, .int .u64 0, .slice none 0 0, .slice none 0 0, .slice none 0 0, .slice none 0 0] 46)) (.cells #[.int .i64 0, .string ⟨#[67]⟩, .bool false, .int .u64 0, .slice av i cc, .int .i64 3, .string ⟨#[]⟩, .bool false, .int .u64 0, .slice none 0 0, .slice none 0 0, .slice none 0 0, .slice none 0 0] 52)
              rw [z1] at a1
              have a2 := ((more1 ((w5.alloc (.cells #[.int .i64 3, .string ⟨#[]⟩, .bool false, .int .u64 0, .slice none 0 0, .slice none 0 0, .slice none 0 0, .slice none 0 0] 46)).alloc (.cells #[.int .i64 0, .string ⟨#[67]⟩, .bool false, .int .u64 0, .slice av i cc, .int .i64 3, .string ⟨#[]⟩, .bool false, .int .u64 0, .slice none 0 0, .slice none 0 0, .slice none 0 0, .slice none 0 0] 52)) (.cells #[.string ⟨#[109, 97, 105, 110]⟩, .slice none 0 0, .int .i64 7, .string ⟨#[]⟩, .bool false, .int .u64 0, .slice none 0 0, .slice (some ⟨w5.heap.size, 0, none⟩) 1 1, .slice none 0 0, .slice (some ⟨w5.heap.size + 1, 0, none⟩) 1 1] 48)).block (w5.heap.size + 1) (by rw [z2]; omega)).trans a1
              have b1 := heap_alloc_new ((w5.alloc (.cells #[.int .i64 3, .string ⟨#[]⟩, .bool false, .int .u64 0, .slice none 0 0, .slice none 0 0, .slice none 0 0, .slice none 0 0] 46)).alloc (.cells #[.int .i64 0, .string ⟨#[67]⟩, .bool false, .int .u64 0, .slice av i cc, .int .i64 3, .string ⟨#[]⟩, .bool false, .int .u64 0, .slice none 0 0, .slice none 0 0, .slice none 0 0, .slice none 0 0] 52)) (.cells #[.string ⟨#[109, 97, 105, 110]⟩, .slice none 0 0, .int .i64 7, .string ⟨#[]⟩, .bool false, .int .u64 0, .slice none 0 0, .slice (some ⟨w5.heap.size, 0, none⟩) 1 1, .slice none 0 0, .slice (some ⟨w5.heap.size + 1, 0, none⟩) 1 1] 48)
              rw [z2] at b1
              have hq3 := onB' hq m3
              have hd3 := ((onB' hb5 m3).block wr.heap.size (World.block_lt_of_cell? _ (⟨wr.heap.size, 0, none⟩ : Addr) (by rw [World.cell?, HX.out.2.1]; rfl))).trans HX.out.2.1
              have HG := Hd (acheck_any (modH n i) (modH_ok ⟨n, h6n⟩ ⟨i, h6m⟩) (modH_fo ⟨n, h6n⟩ ⟨i, h6m⟩) (modC_ar ⟨n, h6n⟩) (some ⟨wr.heap.size, 0, none⟩) 1 (some ⟨w5.heap.size + 1 + 1, 0, none⟩) 1 _ (((w5.alloc (.cells #[.int .i64 3, .string ⟨#[]⟩, .bool false, .int .u64 0, .slice none 0 0, .slice none 0 0, .slice none 0 0, .slice none 0 0] 46)).alloc (.cells #[.int .i64 0, .string ⟨#[67]⟩, .bool false, .int .u64 0, .slice av i cc, .int .i64 3, .string ⟨#[]⟩, .bool false, .int .u64 0, .slice none 0 0, .slice none 0 0, .slice none 0 0, .slice none 0 0] 52)).alloc (.cells #[.string ⟨#[109, 97, 105, 110]⟩, .slice none 0 0, .int .i64 7, .string ⟨#[]⟩, .bool false, .int .u64 0, .slice none 0 0, .slice (some ⟨w5.heap.size, 0, none⟩) 1 1, .slice none 0 0, .slice (some ⟨w5.heap.size + 1, 0, none⟩) 1 1] 48)) (modH_at hd3 ((RowAt.of HZ.out.2.1 (fun _ _ => trivial)).move fun g _ lt => ⟨trivial, hq3.block g lt⟩) k3 a2 b1) (H1.out.2.below (onB' HW.out.2.2.2 (onB' HX.out.2.2 (onB' hb5 m3)))))
              rw [show arM (modH n i) = none from (modH_ar ⟨n, h6n⟩ ⟨i, h6m⟩).2.trans (if_pos E2.out)] at HG
              have HQ := Hd (onB' HW.out.2.2.2 (onB' HX.out.2.2 (onB' hb5 m3)))
              clear hq g0 g1 g2 m1 m2 m3 z1 z2 k1 k2 k3 a1 a2 b1 hq3 hd3 hb5 HC HX HY
              go_wp2_with fail
              refine HG.out.mono ?_
              rintro e w6 ⟨rfl, hb6⟩
              have HR := Hd (onB' H1.out.1 (onB' HQ.out hb6))
              have ea : stN none = (0, []) := rfl
              have eb : tx [] = ⟨#[]⟩ := rfl
              rw [ea, eb]
              clear ea eb hb6 HG
              have f1 : ((n : Int) == (j : Int)) = true := beq_iff_eq.2 (by have := E1.out; omega)
              have f2 : ((n : Int) == (i : Int)) = true := beq_iff_eq.2 (by have := E2.out; omega)
              go_wp2_with fail
              go_ret
              exact ⟨rfl, HR.out⟩
            · have E1 := Hd e1
              have E2 := Hd e2
              clear e1 e2
              have hy0 := HW.out.1.same (Bl (HW.out.1.1 0 _ rfl)) (HZ.out.2.2.block _ (Bl (HW.out.1.1 0 _ rfl)))
              have hy1 := HW.out.2.1.same (Bl (HW.out.2.1.1 0 _ rfl)) (HZ.out.2.2.block _ (Bl (HW.out.2.1.1 0 _ rfl)))
              have hy2 := own_below HW.out.2.2.1 HZ.out.2.2
              have hyC := hy1.same (Bl (hy1.1 0 _ rfl)) ((more1 wr (.cells #[.string ⟨#[67]⟩, .int .i64 n] 36)).block _ (Bl (hy1.1 0 _ rfl)))
              have q0 : (wr.alloc (.cells #[.string ⟨#[67]⟩, .int .i64 n] 36)).cell? ⟨w1.heap.size + 1, 0, none⟩ = some (.int .i64 2) := hyC.1 0 _ rfl
              have q1 : (wr.alloc (.cells #[.string ⟨#[67]⟩, .int .i64 n] 36)).cell? ⟨w1.heap.size + 1, 1, none⟩ = some (.string ⟨#[67]⟩) := hyC.1 1 _ rfl
              have q2 : (wr.alloc (.cells #[.string ⟨#[67]⟩, .int .i64 n] 36)).cell? ⟨w1.heap.size + 1, 2, none⟩ = some (.bool false) := hyC.1 2 _ rfl
              have q3 : (wr.alloc (.cells #[.string ⟨#[67]⟩, .int .i64 n] 36)).cell? ⟨w1.heap.size + 1, 3, none⟩ = some (.int .u64 0) := hyC.1 3 _ rfl
              have q4 : (wr.alloc (.cells #[.string ⟨#[67]⟩, .int .i64 n] 36)).cell? ⟨w1.heap.size + 1, 4, none⟩ = some (.slice none 0 0) := hyC.1 4 _ rfl
              have q5 : (wr.alloc (.cells #[.string ⟨#[67]⟩, .int .i64 n] 36)).cell? ⟨w1.heap.size + 1, 5, none⟩ = some (.slice ak j ck) := hyC.1 5 _ rfl
              have q6 : (wr.alloc (.cells #[.string ⟨#[67]⟩, .int .i64 n] 36)).cell? ⟨w1.heap.size + 1, 6, none⟩ = some (.slice none 0 0) := hyC.1 6 _ rfl
              have q7 : (wr.alloc (.cells #[.string ⟨#[67]⟩, .int .i64 n] 36)).cell? ⟨w1.heap.size + 1, 7, none⟩ = some (.slice none 0 0) := hyC.1 7 _ rfl
              have n1 := more1 wr (.cells #[.string ⟨#[67]⟩, .int .i64 n] 36)
              have n2 := n1.alloc n1.size (.cells #[.string ⟨#[109, 97, 105, 110]⟩, .slice none 0 0, .int .i64 2, .string ⟨#[67]⟩, .bool false, .int .u64 0, .slice none 0 0, .slice ak j ck, .slice none 0 0, .slice none 0 0] 48)
              have z1 : (wr.alloc (.cells #[.string ⟨#[67]⟩, .int .i64 n] 36)).heap.size = wr.heap.size + 1 := World.size_alloc ..
              have hd := ((more1 (wr.alloc (.cells #[.string ⟨#[67]⟩, .int .i64 n] 36)) (.cells #[.string ⟨#[109, 97, 105, 110]⟩, .slice none 0 0, .int .i64 2, .string ⟨#[67]⟩, .bool false, .int .u64 0, .slice none 0 0, .slice ak j ck, .slice none 0 0, .slice none 0 0] 48)).block wr.heap.size (by rw [z1]; omega)).trans (heap_alloc_new wr (.cells #[.string ⟨#[67]⟩, .int .i64 n] 36))
              have hh := heap_alloc_new (wr.alloc (.cells #[.string ⟨#[67]⟩, .int .i64 n] 36)) (.cells #[.string ⟨#[109, 97, 105, 110]⟩, .slice none 0 0, .int .i64 2, .string ⟨#[67]⟩, .bool false, .int .u64 0, .slice none 0 0, .slice ak j ck, .slice none 0 0, .slice none 0 0] 48)
              rw [z1] at hh
              have hmod : ModAt ((wr.alloc (.cells #[.string ⟨#[67]⟩, .int .i64 n] 36)).alloc (.cells #[.string ⟨#[109, 97, 105, 110]⟩, .slice none 0 0, .int .i64 2, .string ⟨#[67]⟩, .bool false, .int .u64 0, .slice none 0 0, .slice ak j ck, .slice none 0 0, .slice none 0 0] 48)) (fun _ => True) (modK n j) (some ⟨wr.heap.size, 0, none⟩) 1 (some ⟨wr.heap.size + 1, 0, none⟩) 1 := modK_at hd ((RowAt.of hy2 (fun _ _ => trivial)).move fun g _ lt => ⟨trivial, n2.block g lt⟩) hh
              have HC := Hd (acheck_any (modK n j) (modK_ok ⟨n, h6n⟩ ⟨j, h6k⟩) (modK_fo ⟨n, h6n⟩ ⟨j, h6k⟩) (modC_ar ⟨n, h6n⟩) (some ⟨wr.heap.size, 0, none⟩) 1 (some ⟨wr.heap.size + 1, 0, none⟩) 1 _ ((wr.alloc (.cells #[.string ⟨#[67]⟩, .int .i64 n] 36)).alloc (.cells #[.string ⟨#[109, 97, 105, 110]⟩, .slice none 0 0, .int .i64 2, .string ⟨#[67]⟩, .bool false, .int .u64 0, .slice none 0 0, .slice ak j ck, .slice none 0 0, .slice none 0 0] 48)) hmod (H1.out.2.below (onB' HW.out.2.2.2 (onB' HZ.out.2.2 n2))))
              rw [show arM (modK n j) = none from (modK_ar ⟨n, h6n⟩ ⟨j, h6k⟩).2.trans (if_pos E1.out)] at HC
              have HX := Hd (Ai n2 (Ai hd (onB' HZ.out.2.2 n2)))
              have HY := Hd (Ai hy0 hy1)
              clear hy0 hy1 hyC hy2 n1 n2 z1 hd hh hmod
              go_wp2_with fail
              refine HC.out.mono ?_
              rintro e w5 ⟨rfl, hb5⟩
              have ea : stN none = (0, []) := rfl
              have eb : tx [] = ⟨#[]⟩ := rfl
              rw [ea, eb]
              clear ea eb
              have hq := onB' HX.out.1 hb5
              have g0 := HY.out.1.same (Bl (HY.out.1.1 0 _ rfl)) (hq.block _ (Bl (HY.out.1.1 0 _ rfl)))
              have g1 := HZ.out.1.same (Bl (HZ.out.1.1 0 _ rfl)) (hq.block _ (Bl (HZ.out.1.1 0 _ rfl)))
              have r0 : w5.cell? ⟨w1.heap.size, 0, none⟩ = some (.int .i64 3) := g0.1 0 _ rfl
              have r1 : w5.cell? ⟨w1.heap.size, 1, none⟩ = some (.string ⟨#[]⟩) := g0.1 1 _ rfl
              have r2 : w5.cell? ⟨w1.heap.size, 2, none⟩ = some (.bool false) := g0.1 2 _ rfl
              have r3 : w5.cell? ⟨w1.heap.size, 3, none⟩ = some (.int .u64 0) := g0.1 3 _ rfl
              have r4 : w5.cell? ⟨w1.heap.size, 4, none⟩ = some (.slice none 0 0) := g0.1 4 _ rfl
              have r5 : w5.cell? ⟨w1.heap.size, 5, none⟩ = some (.slice none 0 0) := g0.1 5 _ rfl
              have r6 : w5.cell? ⟨w1.heap.size, 6, none⟩ = some (.slice none 0 0) := g0.1 6 _ rfl
              have r7 : w5.cell? ⟨w1.heap.size, 7, none⟩ = some (.slice none 0 0) := g0.1 7 _ rfl
              have m1 := more1 w5 (.cells #[.int .i64 3, .string ⟨#[]⟩, .bool false, .int .u64 0, .slice none 0 0, .slice none 0 0, .slice none 0 0, .slice none 0 0] 46)
              have m2 := m1.alloc m1.size (.cells #[.int .i64 0, .string ⟨#[67]⟩, .bool false, .int .u64 0, .slice av i cc, .int .i64 3, .string ⟨#[]⟩, .bool false, .int .u64 0, .slice none 0 0, .slice none 0 0, .slice none 0 0, .slice none 0 0] 52)
              have m3 := m2.alloc m2.size (.cells #[.string ⟨#[109, 97, 105, 110]⟩, .slice none 0 0, .int .i64 7, .string ⟨#[]⟩, .bool false, .int .u64 0, .slice none 0 0, .slice (some ⟨w5.heap.size, 0, none⟩) 1 1, .slice none 0 0, .slice (some ⟨w5.heap.size + 1, 0, none⟩) 1 1] 48)
              have g2 := g1.same (Bl (g1.1 0 _ rfl)) (m1.block _ (Bl (g1.1 0 _ rfl)))
              have s0 : (w5.alloc (.cells #[.int .i64 3, .string ⟨#[]⟩, .bool false, .int .u64 0, .slice none 0 0, .slice none 0 0, .slice none 0 0, .slice none 0 0] 46)).cell? ⟨wA.heap.size, 0, none⟩ = some (.int .i64 0) := g2.1 0 _ rfl
              have s1 : (w5.alloc (.cells #[.int .i64 3, .string ⟨#[]⟩, .bool false, .int .u64 0, .slice none 0 0, .slice none 0 0, .slice none 0 0, .slice none 0 0] 46)).cell? ⟨wA.heap.size, 1, none⟩ = some (.string ⟨#[67]⟩) := g2.1 1 _ rfl
              have s2 : (w5.alloc (.cells #[.int .i64 3, .string ⟨#[]⟩, .bool false, .int .u64 0, .slice none 0 0, .slice none 0 0, .slice none 0 0, .slice none 0 0] 46)).cell? ⟨wA.heap.size, 2, none⟩ = some (.bool false) := g2.1 2 _ rfl
              have s3 : (w5.alloc (.cells #[.int .i64 3, .string ⟨#[]⟩, .bool false, .int .u64 0, .slice none 0 0, .slice none 0 0, .slice none 0 0, .slice none 0 0] 46)).cell? ⟨wA.heap.size, 3, none⟩ = some (.int .u64 0) := g2.1 3 _ rfl
              have s4 : (w5.alloc (.cells #[.int .i64 3, .string ⟨#[]⟩, .bool false, .int .u64 0, .slice none 0 0, .slice none 0 0, .slice none 0 0, .slice none 0 0] 46)).cell? ⟨wA.heap.size, 4, none⟩ = some (.slice av i cc) := g2.1 4 _ rfl
              have s5 : (w5.alloc (.cells #[.int .i64 3, .string ⟨#[]⟩, .bool false, .int .u64 0, .slice none 0 0, .slice none 0 0, .slice none 0 0, .slice none 0 0] 46)).cell? ⟨wA.heap.size, 5, none⟩ = some (.int .i64 3) := g2.1 5 _ rfl
              have s6 : (w5.alloc (.cells #[.int .i64 3, .string ⟨#[]⟩, .bool false, .int .u64 0, .slice none 0 0, .slice none 0 0, .slice none 0 0, .slice none 0 0] 46)).cell? ⟨wA.heap.size, 6, none⟩ = some (.string ⟨#[]⟩) := g2.1 6 _ rfl
              have s7 : (w5.alloc (.cells #[.int .i64 3, .string ⟨#[]⟩, .bool false, .int .u64 0, .slice none 0 0, .slice none 0 0, .slice none 0 0, .slice none 0 0] 46)).cell? ⟨wA.heap.size, 7, none⟩ = some (.bool false) := g2.1 7 _ rfl
              have s8 : (w5.alloc (.cells #[.int .i64 3, .string ⟨#[]⟩, .bool false, .int .u64 0, .slice none 0 0, .slice none 0 0, .slice none 0 0, .slice none 0 0] 46)).cell? ⟨wA.heap.size, 8, none⟩ = some (.int .u64 0) := g2.1 8 _ rfl
              have s9 : (w5.alloc (.cells #[.int .i64 3, .string ⟨#[]⟩, .bool false, .int .u64 0, .slice none 0 0, .slice none 0 0, .slice none 0 0, .slice none 0 0] 46)).cell? ⟨wA.heap.size, 9, none⟩ = some (.slice none 0 0) := g2.1 9 _ rfl
              have s10 : (w5.alloc (.cells #[.int .i64 3, .string ⟨#[]⟩, .bool false, .int .u64 0, .slice none 0 0, .slice none 0 0, .slice none 0 0, .slice none 0 0] 46)).cell? ⟨wA.heap.size, 10, none⟩ = some (.slice none 0 0) := g2.1 10 _ rfl
              have s11 : (w5.alloc (.cells #[.int .i64 3, .string ⟨#[]⟩, .bool false, .int .u64 0, .slice none 0 0, .slice none 0 0, .slice none 0 0, .slice none 0 0] 46)).cell? ⟨wA.heap.size, 11, none⟩ = some (.slice none 0 0) := g2.1 11 _ rfl
              have s12 : (w5.alloc (.cells #[.int .i64 3, .string ⟨#[]⟩, .bool false, .int .u64 0, .slice none 0 0, .slice none 0 0, .slice none 0 0, .slice none 0 0] 46)).cell? ⟨wA.heap.size, 12, none⟩ = some (.slice none 0 0) := g2.1 12 _ rfl
              have z1 : (w5.alloc (.cells #[.int .i64 3, .string ⟨#[]⟩, .bool false, .int .u64 0, .slice none 0 0, .slice none 0 0, .slice none 0 0, .slice none 0 0] 46)).heap.size = w5.heap.size + 1 := World.size_alloc ..
              have z2 : ((w5.alloc (.cells #[.int .i64 3, .string ⟨#[]⟩, .bool false, .int .u64 0, .slice none 0 0, .slice none 0 0, .slice none 0 0, .slice none 0 0] 46)).alloc (.cells #[.int .i64 0, .string ⟨#[67]⟩, .bool false, .int .u64 0, .slice av i cc, .int .i64 3, .string ⟨#[]⟩, .bool false, .int .u64 0, .slice none 0 0, .slice none 0 0, .slice none 0 0, .slice none 0 0] 52)).heap.size = w5.heap.size + 1 + 1 := by rw [World.size_alloc, z1]
              have k1 := heap_alloc_new w5 (.cells #[.int .i64 3, .string ⟨#[]⟩, .bool false, .int .u64 0, .slice none 0 0, .slice none 0 0, .slice none 0 0, .slice none 0 0] 46)
              have k2 := ((more1 (w5.alloc (.cells #[.int .i64 3, .string ⟨#[]⟩, .bool false, .int .u64 0, .slice none 0 0, .slice none 0 0, .slice none 0 0, .slice none 0 0] 46)) (.cells #[.int .i64 0, .string ⟨#[67]⟩, .bool false, .int .u64 0, .slice av i cc, .int .i64 3, .string ⟨#[]⟩, .bool false, .int .u64 0, .slice none 0 0, .slice none 0 0, .slice none 0 0, .slice none 0 0] 52)).block w5.heap.size (by rw [z1]; omega)).trans k1
              have k3 := ((more1 ((w5.alloc (.cells #[.int .i64 3, .string ⟨#[]⟩, .bool false, .int .u64 0, .slice none 0 0, .slice none 0 0, .slice none 0 0, .slice none 0 0] 46)).alloc (.cells #[.int .i64 0, .string ⟨#[67]⟩, .bool false, .int .u64 0, .slice av i cc, .int .i64 3, .string ⟨#[]⟩, .bool false, .int .u64 0, .slice none 0 0, .slice none 0 0, .slice none 0 0, .slice none 0 0] 52)) (.cells #[.string ⟨#[109, 97, 105, 110]⟩, .slice none 0 0, .int .i64 7, .string ⟨#[]⟩, .bool false, .int .u64 0, .slice none 0 0, .slice (some ⟨w5.heap.size, 0, none⟩) 1 1, .slice none 0 0, .slice (some ⟨w5.heap.size + 1, 0, none⟩) 1 1] 48)).block w5.heap.size (by rw [z2]; omega)).trans k2
              have a1 := heap_alloc_new (w5.alloc (.cells #[.int .i64 3, .string ⟨#[]⟩, .bool false, .int .u64 0, .slice none 0 0, .slice none 0 0, .slice none 0 0, .slice none 0 0] 46)) (.cells #[.int .i64 0, .string ⟨#[67]⟩, .bool false, .int .u64 0, .slice av i cc, .int .i64 3, .string ⟨#[]⟩, .bool false, .int .u64 0, .slice none 0 0, .slice none 0 0, .slice none 0 0, .slice none 0 0] 52)
              rw [z1] at a1
              have a2 := ((more1 ((w5.alloc (.cells #[.int .i64 3, .string ⟨#[]⟩, .bool false, .int .u64 0, .slice none 0 0, .slice none 0 0, .slice none 0 0, .slice none 0 0] 46)).alloc (.cells #[.int .i64 0, .string ⟨#[67]⟩, .bool false, .int .u64 0, .slice av i cc, .int .i64 3, .string ⟨#[]⟩, .bool false, .int .u64 0, .slice none 0 0, .slice none 0 0, .slice none 0 0, .slice none 0 0] 52)) (.cells #[.string ⟨#[109, 97, 105, 110]⟩, .slice none 0 0, .int .i64 7, .string ⟨#[]⟩, .bool false, .int .u64 0, .slice none 0 0, .slice (some ⟨w5.heap.size, 0, none⟩) 1 1, .slice none 0 0, .slice (some ⟨w5.heap.size + 1, 0, none⟩) 1 1] 48)).block (w5.heap.size + 1) (by rw [z2]; omega)).trans a1
              have b1 := heap_alloc_new ((w5.alloc (.cells #[.int .i64 3, .string ⟨#[]⟩, .bool false, .int .u64 0, .slice none 0 0, .slice none 0 0, .slice none 0 0, .slice none 0 0] 46)).alloc (.cells #[.int .i64 0, .string ⟨#[67]⟩, .bool false, .int .u64 0, .slice av i cc, .int .i64 3, .string ⟨#[]⟩, .bool false, .int .u64 0, .slice none 0 0, .slice none 0 0, .slice none 0 0, .slice none 0 0] 52)) (.cells #[.string ⟨#[109, 97, 105, 110]⟩, .slice none 0 0, .int .i64 7, .string ⟨#[]⟩, .bool false, .int .u64 0, .slice none 0 0, .slice (some ⟨w5.heap.size, 0, none⟩) 1 1, .slice none 0 0, .slice (some ⟨w5.heap.size + 1, 0, none⟩) 1 1] 48)
              rw [z2] at b1
              have hq3 := onB' hq m3
              have hd3 := ((onB' hb5 m3).block wr.heap.size (World.block_lt_of_cell? _ (⟨wr.heap.size, 0, none⟩ : Addr) (by rw [World.cell?, HX.out.2.1]; rfl))).trans HX.out.2.1
              have HG := Hd (acheck_any (modH n i) (modH_ok ⟨n, h6n⟩ ⟨i, h6m⟩) (modH_fo ⟨n, h6n⟩ ⟨i, h6m⟩) (modC_ar ⟨n, h6n⟩) (some ⟨wr.heap.size, 0, none⟩) 1 (some ⟨w5.heap.size + 1 + 1, 0, none⟩) 1 _ (((w5.alloc (.cells #[.int .i64 3, .string ⟨#[]⟩, .bool false, .int .u64 0, .slice none 0 0, .slice none 0 0, .slice none 0 0, .slice none 0 0] 46)).alloc (.cells #[.int .i64 0, .string ⟨#[67]⟩, .bool false, .int .u64 0, .slice av i cc, .int .i64 3, .string ⟨#[]⟩, .bool false, .int .u64 0, .slice none 0 0, .slice none 0 0, .slice none 0 0, .slice none 0 0] 52)).alloc (.cells #[.string ⟨#[109, 97, 105, 110]⟩, .slice none 0 0, .int .i64 7, .string ⟨#[]⟩, .bool false, .int .u64 0, .slice none 0 0, .slice (some ⟨w5.heap.size, 0, none⟩) 1 1, .slice none 0 0, .slice (some ⟨w5.heap.size + 1, 0, none⟩) 1 1] 48)) (modH_at hd3 ((RowAt.of HZ.out.2.1 (fun _ _ => trivial)).move fun g _ lt => ⟨trivial, hq3.block g lt⟩) k3 a2 b1) (H1.out.2.below (onB' HW.out.2.2.2 (onB' HX.out.2.2 (onB' hb5 m3)))))
              rw [show arM (modH n i) = some (11, nmC) from (modH_ar ⟨n, h6n⟩ ⟨i, h6m⟩).2.trans (if_neg E2.out)] at HG
              have HQ := Hd (onB' HW.out.2.2.2 (onB' HX.out.2.2 (onB' hb5 m3)))
              clear hq g0 g1 g2 m1 m2 m3 z1 z2 k1 k2 k3 a1 a2 b1 hq3 hd3 hb5 HC HX HY
              go_wp2_with fail
              refine HG.out.mono ?_
              rintro e w6 ⟨rfl, hb6⟩
              have HR := Hd (onB' H1.out.1 (onB' HQ.out hb6))
              have ea : stN (some ((11 : Int), nmC)) = (11, nmC) := rfl
              have eb : tx nmC = ⟨#[67]⟩ := rfl
              rw [ea, eb]
              clear ea eb hb6 HG
              have f1 : ((n : Int) == (j : Int)) = true := beq_iff_eq.2 (by have := E1.out; omega)
              have f2 : ((n : Int) == (i : Int)) = false := beq_eq_false_iff_ne.2 (fun q => E2.out (by omega))
              go_wp2_with fail
              go_ret
              exact ⟨rfl, HR.out⟩
          · by_cases e2 : n = i
            · have E1 := Hd e1
              have E2 := Hd e2
              clear e1 e2
              have hy0 := HW.out.1.same (Bl (HW.out.1.1 0 _ rfl)) (HZ.out.2.2.block _ (Bl (HW.out.1.1 0 _ rfl)))
              have hy1 := HW.out.2.1.same (Bl (HW.out.2.1.1 0 _ rfl)) (HZ.out.2.2.block _ (Bl (HW.out.2.1.1 0 _ rfl)))
              have hy2 := own_below HW.out.2.2.1 HZ.out.2.2
              have hyC := hy1.same (Bl (hy1.1 0 _ rfl)) ((more1 wr (.cells #[.string ⟨#[67]⟩, .int .i64 n] 36)).block _ (Bl (hy1.1 0 _ rfl)))
              have q0 : (wr.alloc (.cells #[.string ⟨#[67]⟩, .int .i64 n] 36)).cell? ⟨w1.heap.size + 1, 0, none⟩ = some (.int .i64 2) := hyC.1 0 _ rfl
              have q1 : (wr.alloc (.cells #[.string ⟨#[67]⟩, .int .i64 n] 36)).cell? ⟨w1.heap.size + 1, 1, none⟩ = some (.string ⟨#[67]⟩) := hyC.1 1 _ rfl
              have q2 : (wr.alloc (.cells #[.string ⟨#[67]⟩, .int .i64 n] 36)).cell? ⟨w1.heap.size + 1, 2, none⟩ = some (.bool false) := hyC.1 2 _ rfl
              have q3 : (wr.alloc (.cells #[.string ⟨#[67]⟩, .int .i64 n] 36)).cell? ⟨w1.heap.size + 1, 3, none⟩ = some (.int .u64 0) := hyC.1 3 _ rfl
              have q4 : (wr.alloc (.cells #[.string ⟨#[67]⟩, .int .i64 n] 36)).cell? ⟨w1.heap.size + 1, 4, none⟩ = some (.slice none 0 0) := hyC.1 4 _ rfl
              have q5 : (wr.alloc (.cells #[.string ⟨#[67]⟩, .int .i64 n] 36)).cell? ⟨w1.heap.size + 1, 5, none⟩ = some (.slice ak j ck) := hyC.1 5 _ rfl
              have q6 : (wr.alloc (.cells #[.string ⟨#[67]⟩, .int .i64 n] 36)).cell? ⟨w1.heap.size + 1, 6, none⟩ = some (.slice none 0 0) := hyC.1 6 _ rfl
              have q7 : (wr.alloc (.cells #[.string ⟨#[67]⟩, .int .i64 n] 36)).cell? ⟨w1.heap.size + 1, 7, none⟩ = some (.slice none 0 0) := hyC.1 7 _ rfl
              have n1 := more1 wr (.cells #[.string ⟨#[67]⟩, .int .i64 n] 36)
              have n2 := n1.alloc n1.size (.cells #[.string ⟨#[109, 97, 105, 110]⟩, .slice none 0 0, .int .i64 2, .string ⟨#[67]⟩, .bool false, .int .u64 0, .slice none 0 0, .slice ak j ck, .slice none 0 0, .slice none 0 0] 48)
              have z1 : (wr.alloc (.cells #[.string ⟨#[67]⟩, .int .i64 n] 36)).heap.size = wr.heap.size + 1 := World.size_alloc ..
              have hd := ((more1 (wr.alloc (.cells #[.string ⟨#[67]⟩, .int .i64 n] 36)) (.cells #[.string ⟨#[109, 97, 105, 110]⟩, .slice none 0 0, .int .i64 2, .string ⟨#[67]⟩, .bool false, .int .u64 0, .slice none 0 0, .slice ak j ck, .slice none 0 0, .slice none 0 0] 48)).block wr.heap.size (by rw [z1]; omega)).trans (heap_alloc_new wr (.cells #[.string ⟨#[67]⟩, .int .i64 n] 36))
              have hh := heap_alloc_new (wr.alloc (.cells #[.string ⟨#[67]⟩, .int .i64 n] 36)) (.cells #[.string ⟨#[109, 97, 105, 110]⟩, .slice none 0 0, .int .i64 2, .string ⟨#[67]⟩, .bool false, .int .u64 0, .slice none 0 0, .slice ak j ck, .slice none 0 0, .slice none 0 0] 48)
              rw [z1] at hh
              have hmod : ModAt ((wr.alloc (.cells #[.string ⟨#[67]⟩, .int .i64 n] 36)).alloc (.cells #[.string ⟨#[109, 97, 105, 110]⟩, .slice none 0 0, .int .i64 2, .string ⟨#[67]⟩, .bool false, .int .u64 0, .slice none 0 0, .slice ak j ck, .slice none 0 0, .slice none 0 0] 48)) (fun _ => True) (modK n j) (some ⟨wr.heap.size, 0, none⟩) 1 (some ⟨wr.heap.size + 1, 0, none⟩) 1 := modK_at hd ((RowAt.of hy2 (fun _ _ => trivial)).move fun g _ lt => ⟨trivial, n2.block g lt⟩) hh
              have HC := Hd (acheck_any (modK n j) (modK_ok ⟨n, h6n⟩ ⟨j, h6k⟩) (modK_fo ⟨n, h6n⟩ ⟨j, h6k⟩) (modC_ar ⟨n, h6n⟩) (some ⟨wr.heap.size, 0, none⟩) 1 (some ⟨wr.heap.size + 1, 0, none⟩) 1 _ ((wr.alloc (.cells #[.string ⟨#[67]⟩, .int .i64 n] 36)).alloc (.cells #[.string ⟨#[109, 97, 105, 110]⟩, .slice none 0 0, .int .i64 2, .string ⟨#[67]⟩, .bool false, .int .u64 0, .slice none 0 0, .slice ak j ck, .slice none 0 0, .slice none 0 0] 48)) hmod (H1.out.2.below (onB' HW.out.2.2.2 (onB' HZ.out.2.2 n2))))
              rw [show arM (modK n j) = some (11, nmC) from (modK_ar ⟨n, h6n⟩ ⟨j, h6k⟩).2.trans (if_neg E1.out)] at HC
              have HX := Hd (Ai n2 (Ai hd (onB' HZ.out.2.2 n2)))
              have HY := Hd (Ai hy0 hy1)
              clear hy0 hy1 hyC hy2 n1 n2 z1 hd hh hmod
              go_wp2_with fail
              refine HC.out.mono ?_
              rintro e w5 ⟨rfl, hb5⟩
              have ea : stN (some ((11 : Int), nmC)) = (11, nmC) := rfl
              have eb : tx nmC = ⟨#[67]⟩ := rfl
              rw [ea, eb]
              clear ea eb
              have hq := onB' HX.out.1 hb5
              have g0 := HY.out.1.same (Bl (HY.out.1.1 0 _ rfl)) (hq.block _ (Bl (HY.out.1.1 0 _ rfl)))
              have g1 := HZ.out.1.same (Bl (HZ.out.1.1 0 _ rfl)) (hq.block _ (Bl (HZ.out.1.1 0 _ rfl)))
              have r0 : w5.cell? ⟨w1.heap.size, 0, none⟩ = some (.int .i64 3) := g0.1 0 _ rfl
              have r1 : w5.cell? ⟨w1.heap.size, 1, none⟩ = some (.string ⟨#[]⟩) := g0.1 1 _ rfl
              have r2 : w5.cell? ⟨w1.heap.size, 2, none⟩ = some (.bool false) := g0.1 2 _ rfl
              have r3 : w5.cell? ⟨w1.heap.size, 3, none⟩ = some (.int .u64 0) := g0.1 3 _ rfl
              have r4 : w5.cell? ⟨w1.heap.size, 4, none⟩ = some (.slice none 0 0) := g0.1 4 _ rfl
              have r5 : w5.cell? ⟨w1.heap.size, 5, none⟩ = some (.slice none 0 0) := g0.1 5 _ rfl
              have r6 : w5.cell? ⟨w1.heap.size, 6, none⟩ = some (.slice none 0 0) := g0.1 6 _ rfl
              have r7 : w5.cell? ⟨w1.heap.size, 7, none⟩ = some (.slice none 0 0) := g0.1 7 _ rfl
              have m1 := more1 w5 (.cells #[.int .i64 3, .string ⟨#[]⟩, .bool false, .int .u64 0, .slice none 0 0, .slice none 0 0, .slice none 0 0, .slice none 0 0] 46)
              have m2 := m1.alloc m1.size (.cells #[.int .i64 0, .string ⟨#[67]⟩, .bool false, .int .u64 0, .slice av i cc, .int .i64 3, .string ⟨#[]⟩, .bool false, .int .u64 0, .slice none 0 0, .slice none 0 0, .slice none 0 0, .slice none 0 0] 52)
              have m3 := m2.alloc m2.size (.cells #[.string ⟨#[109, 97, 105, 110]⟩, .slice none 0 0, .int .i64 7, .string ⟨#[]⟩, .bool false, .int .u64 0, .slice none 0 0, .slice (some ⟨w5.heap.size, 0, none⟩) 1 1, .slice none 0 0, .slice (some ⟨w5.heap.size + 1, 0, none⟩) 1 1] 48)
              have g2 := g1.same (Bl (g1.1 0 _ rfl)) (m1.block _ (Bl (g1.1 0 _ rfl)))
              have s0 : (w5.alloc (.cells #[.int .i64 3, .string ⟨#[]⟩, .bool false, .int .u64 0, .slice none 0 0, .slice none 0 0, .slice none 0 0, .slice none 0 0] 46)).cell? ⟨wA.heap.size, 0, none⟩ = some (.int .i64 0) := g2.1 0 _ rfl
              have s1 : (w5.alloc (.cells #[.int .i64 3, .string ⟨#[]⟩, .bool false, .int .u64 0, .slice none 0 0, .slice none 0 0, .slice none 0 0, .slice none 0 0] 46)).cell? ⟨wA.heap.size, 1, none⟩ = some (.string ⟨#[67]⟩) := g2.1 1 _ rfl
              have s2 : (w5.alloc (.cells #[.int .i64 3, .string ⟨#[]⟩, .bool false, .int .u64 0, .slice none 0 0, .slice none 0 0, .slice none 0 0, .slice none 0 0] 46)).cell? ⟨wA.heap.size, 2, none⟩ = some (.bool false) := g2.1 2 _ rfl
              have s3 : (w5.alloc (.cells #[.int .i64 3, .string ⟨#[]⟩, .bool false, .int .u64 0, .slice none 0 0, .slice none 0 0, .slice none 0 0, .slice none 0 0] 46)).cell? ⟨wA.heap.size, 3, none⟩ = some (.int .u64 0) := g2.1 3 _ rfl
              have s4 : (w5.alloc (.cells #[.int .i64 3, .string ⟨#[]⟩, .bool false, .int .u64 0, .slice none 0 0, .slice none 0 0, .slice none 0 0, .slice none 0 0] 46)).cell? ⟨wA.heap.size, 4, none⟩ = some (.slice av i cc) := g2.1 4 _ rfl
              have s5 : (w5.alloc (.cells #[.int .i64 3, .string ⟨#[]⟩, .bool false, .int .u64 0, .slice none 0 0, .slice none 0 0, .slice none 0 0, .slice none 0 0] 46)).cell? ⟨wA.heap.size, 5, none⟩ = some (.int .i64 3) := g2.1 5 _ rfl
              have s6 : (w5.alloc (.cells #[.int .i64 3, .string ⟨#[]⟩, .bool false, .int .u64 0, .slice none 0 0, .slice none 0 0, .slice none 0 0, .slice none 0 0] 46)).cell? ⟨wA.heap.size, 6, none⟩ = some (.string ⟨#[]⟩) := g2.1 6 _ rfl
              have s7 : (w5.alloc (.cells #[.int .i64 3, .string ⟨#[]⟩, .bool false, .int .u64 0, .slice none 0 0, .slice none 0 0, .slice none 0 0, .slice none 0 0] 46)).cell? ⟨wA.heap.size, 7, none⟩ = some (.bool false) := g2.1 7 _ rfl
              have s8 : (w5.alloc (.cells #[.int .i64 3, .string ⟨#[]⟩, .bool false, .int .u64 0, .slice none 0 0, .slice none 0 0, .slice none 0 0, .slice none 0 0] 46)).cell? ⟨wA.heap.size, 8, none⟩ = some (.int .u64 0) := g2.1 8 _ rfl
              have s9 : (w5.alloc (.cells #[.int .i64 3, .string ⟨#[]⟩, .bool false, .int .u64 0, .slice none 0 0, .slice none 0 0, .slice none 0 0, .slice none 0 0] 46)).cell? ⟨wA.heap.size, 9, none⟩ = some (.slice none 0 0) := g2.1 9 _ rfl
              have s10 : (w5.alloc (.cells #[.int .i64 3, .string ⟨#[]⟩, .bool false, .int .u64 0, .slice none 0 0, .slice none 0 0, .slice none 0 0, .slice none 0 0] 46)).cell? ⟨wA.heap.size, 10, none⟩ = some (.slice none 0 0) := g2.1 10 _ rfl
              have s11 : (w5.alloc (.cells #[.int .i64 3, .string ⟨#[]⟩, .bool false, .int .u64 0, .slice none 0 0, .slice none 0 0, .slice none 0 0, .slice none 0 0] 46)).cell? ⟨wA.heap.size, 11, none⟩ = some (.slice none 0 0) := g2.1 11 _ rfl
              have s12 : (w5.alloc (.cells #[.int .i64 3, .string ⟨#[]⟩, .bool false, .int .u64 0, .slice none 0 0, .slice none 0 0, .slice none 0 0, .slice none 0 0] 46)).cell? ⟨wA.heap.size, 12, none⟩ = some (.slice none 0 0) := g2.1 12 _ rfl
              have z1 : (w5.alloc (.cells #[.int .i64 3, .string ⟨#[]⟩, .bool false, .int .u64 0, .slice none 0 0, .slice none 0 0, .slice none 0 0, .slice none 0 0] 46)).heap.size = w5.heap.size + 1 := World.size_alloc ..
              have z2 : ((w5.alloc (.cells #[.int .i64 3, .string ⟨#[]⟩, .bool false, .int .u64 0, .slice none 0 0, .slice none 0 0, .slice none 0 0, .slice none 0 0] 46)).alloc (.cells #[.int .i64 0, .string ⟨#[67]⟩, .bool false, .int .u64 0, .slice av i cc, .int .i64 3, .string ⟨#[]⟩, .bool false, .int .u64 0, .slice none 0 0, .slice none 0 0, .slice none 0 0, .slice none 0 0] 52)).heap.size = w5.heap.size + 1 + 1 := by rw [World.size_alloc, z1]
              have k1 := heap_alloc_new w5 (.cells #[.int .i64 3, .string ⟨#[]⟩, .bool false, .int .u64 0, .slice none 0 0, .slice none 0 0, .slice none 0 0, .slice none 0 0] 46)
              have k2 := ((more1 (w5.alloc (.cells #[.int .i64 3, .string ⟨#[]⟩, .bool false, .int .u64 0, .slice none 0 0, .slice none 0 0, .slice none 0 0, .slice none 0 0] 46)) (.cells #[.int .i64 0, .string ⟨#[67]⟩, .bool false, .int .u64 0, .slice av i cc, .int .i64 3, .string ⟨#[]⟩, .bool false, .int .u64 0, .slice none 0 0, .slice none 0 0, .slice none 0 0, .slice none 0 0] 52)).block w5.heap.size (by rw [z1]; omega)).trans k1
              have k3 := ((more1 ((w5.alloc (.cells #[.int .i64 3, .string ⟨#[]⟩, .bool false, .int .u64 0, .slice none 0 0, .slice none 0 0, .slice none 0 0, .slice none 0 0] 46)).alloc (.cells #[.int .i64 0, .string ⟨#[67]⟩, .bool false, .int .u64 0, .slice av i cc, .int .i64 3, .string ⟨#[]⟩, .bool false, .int .u64 0, .slice none 0 0, .slice none 0 0, .slice none 0 0, .slice none 0 0] 52)) (.cells #[.string ⟨#[109, 97, 105, 110]⟩, .slice none 0 0, .int .i64 7, .string ⟨#[]⟩, .bool false, .int .u64 0, .slice none 0 0, .slice (some ⟨w5.heap.size, 0, none⟩) 1 1, .slice none 0 0, .slice (some ⟨w5.heap.size + 1, 0, none⟩) 1 1] 48)).block w5.heap.size (by rw [z2]; omega)).trans k2
              have a1 := heap_alloc_new (w5.alloc (.cells #[.int .i64 3, .string ⟨#[]⟩, .bool false, .int .u64 0, .slice none 0 0, .slice none 0 0, .slice none 0 0, .slice none 0 0] 46)) (.cells #[.int .i64 0, .string ⟨#[67]⟩, .bool false, .int .u64 0, .slice av i cc, .int .i64 3, .string ⟨#[]⟩, .bool false, .int .u64 0, .slice none 0 0, .slice none 0 0, .slice none 0 0, .slice none 0 0] 52)
              rw [z1] at a1
              have a2 := ((more1 ((w5.alloc (.cells #[.int .i64 3, .string ⟨#[]⟩, .bool false, .int .u64 0, .slice none 0 0, .slice none 0 0, .slice none 0 0, .slice none 0 0] 46)).alloc (.cells #[.int .i64 0, .string ⟨#[67]⟩, .bool false, .int .u64 0, .slice av i cc, .int .i64 3, .string ⟨#[]⟩, .bool false, .int .u64 0, .slice none 0 0, .slice none 0 0, .slice none 0 0, .slice none 0 0] 52)) (.cells #[.string ⟨#[109, 97, 105, 110]⟩, .slice none 0 0, .int .i64 7, .string ⟨#[]⟩, .bool false, .int .u64 0, .slice none 0 0, .slice (some ⟨w5.heap.size, 0, none⟩) 1 1, .slice none 0 0, .slice (some ⟨w5.heap.size + 1, 0, none⟩) 1 1] 48)).block (w5.heap.size + 1) (by rw [z2]; omega)).trans a1
              have b1 := heap_alloc_new ((w5.alloc (.cells #[.int .i64 3, .string ⟨#[]⟩, .bool false, .int .u64 0, .slice none 0 0, .slice none 0 0, .slice none 0 0, .slice none 0 0] 46)).alloc (.cells #[.int .i64 0, .string ⟨#[67]⟩, .bool false, .int .u64 0, .slice av i cc, .int .i64 3, .string ⟨#[]⟩, .bool false, .int .u64 0, .slice none 0 0, .slice none 0 0, .slice none 0 0, .slice none 0 0] 52)) (.cells #[.string ⟨#[109, 97, 105, 110]⟩, .slice none 0 0, .int .i64 7, .string ⟨#[]⟩, .bool false, .int .u64 0, .slice none 0 0, .slice (some ⟨w5.heap.size, 0, none⟩) 1 1, .slice none 0 0, .slice (some ⟨w5.heap.size + 1, 0, none⟩) 1 1] 48)
              rw [z2] at b1
              have hq3 := onB' hq m3
              have hd3 := ((onB' hb5 m3).block wr.heap.size (World.block_lt_of_cell? _ (⟨wr.heap.size, 0, none⟩ : Addr) (by rw [World.cell?, HX.out.2.1]; rfl))).trans HX.out.2.1
              have HG := Hd (acheck_any (modH n i) (modH_ok ⟨n, h6n⟩ ⟨i, h6m⟩) (modH_fo ⟨n, h6n⟩ ⟨i, h6m⟩) (modC_ar ⟨n, h6n⟩) (some ⟨wr.heap.size, 0, none⟩) 1 (some ⟨w5.heap.size + 1 + 1, 0, none⟩) 1 _ (((w5.alloc (.cells #[.int .i64 3, .string ⟨#[]⟩, .bool false, .int .u64 0, .slice none 0 0, .slice none 0 0, .slice none 0 0, .slice none 0 0] 46)).alloc (.cells #[.int .i64 0, .string ⟨#[67]⟩, .bool false, .int .u64 0, .slice av i cc, .int .i64 3, .string ⟨#[]⟩, .bool false, .int .u64 0, .slice none 0 0, .slice none 0 0, .slice none 0 0, .slice none 0 0] 52)).alloc (.cells #[.string ⟨#[109, 97, 105, 110]⟩, .slice none 0 0, .int .i64 7, .string ⟨#[]⟩, .bool false, .int .u64 0, .slice none 0 0, .slice (some ⟨w5.heap.size, 0, none⟩) 1 1, .slice none 0 0, .slice (some ⟨w5.heap.size + 1, 0, none⟩) 1 1] 48)) (modH_at hd3 ((RowAt.of HZ.out.2.1 (fun _ _ => trivial)).move fun g _ lt => ⟨trivial, hq3.block g lt⟩) k3 a2 b1) (H1.out.2.below (onB' HW.out.2.2.2 (onB' HX.out.2.2 (onB' hb5 m3)))))
              rw [show arM (modH n i) = none from (modH_ar ⟨n, h6n⟩ ⟨i, h6m⟩).2.trans (if_pos E2.out)] at HG
              have HQ := Hd (onB' HW.out.2.2.2 (onB' HX.out.2.2 (onB' hb5 m3)))
              clear hq g0 g1 g2 m1 m2 m3 z1 z2 k1 k2 k3 a1 a2 b1 hq3 hd3 hb5 HC HX HY
              go_wp2_with fail
              refine HG.out.mono ?_
              rintro e w6 ⟨rfl, hb6⟩
              have HR := Hd (onB' H1.out.1 (onB' HQ.out hb6))
              have ea : stN none = (0, []) := rfl
              have eb : tx [] = ⟨#[]⟩ := rfl
              rw [ea, eb]
              clear ea eb hb6 HG
              have f1 : ((n : Int) == (j : Int)) = false := beq_eq_false_iff_ne.2 (fun q => E1.out (by omega))
              have f2 : ((n : Int) == (i : Int)) = true := beq_iff_eq.2 (by have := E2.out; omega)
              go_wp2_with fail
              go_ret
              exact ⟨rfl, HR.out⟩
            · have E1 := Hd e1
              have E2 := Hd e2
              clear e1 e2
              have hy0 := HW.out.1.same (Bl (HW.out.1.1 0 _ rfl)) (HZ.out.2.2.block _ (Bl (HW.out.1.1 0 _ rfl)))
              have hy1 := HW.out.2.1.same (Bl (HW.out.2.1.1 0 _ rfl)) (HZ.out.2.2.block _ (Bl (HW.out.2.1.1 0 _ rfl)))
              have hy2 := own_below HW.out.2.2.1 HZ.out.2.2
              have hyC := hy1.same (Bl (hy1.1 0 _ rfl)) ((more1 wr (.cells #[.string ⟨#[67]⟩, .int .i64 n] 36)).block _ (Bl (hy1.1 0 _ rfl)))
              have q0 : (wr.alloc (.cells #[.string ⟨#[67]⟩, .int .i64 n] 36)).cell? ⟨w1.heap.size + 1, 0, none⟩ = some (.int .i64 2) := hyC.1 0 _ rfl
              have q1 : (wr.alloc (.cells #[.string ⟨#[67]⟩, .int .i64 n] 36)).cell? ⟨w1.heap.size + 1, 1, none⟩ = some (.string ⟨#[67]⟩) := hyC.1 1 _ rfl
              have q2 : (wr.alloc (.cells #[.string ⟨#[67]⟩, .int .i64 n] 36)).cell? ⟨w1.heap.size + 1, 2, none⟩ = some (.bool false) := hyC.1 2 _ rfl
              have q3 : (wr.alloc (.cells #[.string ⟨#[67]⟩, .int .i64 n] 36)).cell? ⟨w1.heap.size + 1, 3, none⟩ = some (.int .u64 0) := hyC.1 3 _ rfl
              have q4 : (wr.alloc (.cells #[.string ⟨#[67]⟩, .int .i64 n] 36)).cell? ⟨w1.heap.size + 1, 4, none⟩ = some (.slice none 0 0) := hyC.1 4 _ rfl
              have q5 : (wr.alloc (.cells #[.string ⟨#[67]⟩, .int .i64 n] 36)).cell? ⟨w1.heap.size + 1, 5, none⟩ = some (.slice ak j ck) := hyC.1 5 _ rfl
              have q6 : (wr.alloc (.cells #[.string ⟨#[67]⟩, .int .i64 n] 36)).cell? ⟨w1.heap.size + 1, 6, none⟩ = some (.slice none 0 0) := hyC.1 6 _ rfl
              have q7 : (wr.alloc (.cells #[.string ⟨#[67]⟩, .int .i64 n] 36)).cell? ⟨w1.heap.size + 1, 7, none⟩ = some (.slice none 0 0) := hyC.1 7 _ rfl
              have n1 := more1 wr (.cells #[.string ⟨#[67]⟩, .int .i64 n] 36)
              have n2 := n1.alloc n1.size (.cells #[.string ⟨#[109, 97, 105, 110]⟩, .slice none 0 0, .int .i64 2, .string ⟨#[67]⟩, .bool false, .int .u64 0, .slice none 0 0, .slice ak j ck, .slice none 0 0, .slice none 0 0] 48)
              have z1 : (wr.alloc (.cells #[.string ⟨#[67]⟩, .int .i64 n] 36)).heap.size = wr.heap.size + 1 := World.size_alloc ..
              have hd := ((more1 (wr.alloc (.cells #[.string ⟨#[67]⟩, .int .i64 n] 36)) (.cells #[.string ⟨#[109, 97, 105, 110]⟩, .slice none 0 0, .int .i64 2, .string ⟨#[67]⟩, .bool false, .int .u64 0, .slice none 0 0, .slice ak j ck, .slice none 0 0, .slice none 0 0] 48)).block wr.heap.size (by rw [z1]; omega)).trans (heap_alloc_new wr (.cells #[.string ⟨#[67]⟩, .int .i64 n] 36))
              have hh := heap_alloc_new (wr.alloc (.cells #[.string ⟨#[67]⟩, .int .i64 n] 36)) (.cells #[.string ⟨#[109, 97, 105, 110]⟩, .slice none 0 0, .int .i64 2, .string ⟨#[67]⟩, .bool false, .int .u64 0, .slice none 0 0, .slice ak j ck, .slice none 0 0, .slice none 0 0] 48)
              rw [z1] at hh
              have hmod : ModAt ((wr.alloc (.cells #[.string ⟨#[67]⟩, .int .i64 n] 36)).alloc (.cells #[.string ⟨#[109, 97, 105, 110]⟩, .slice none 0 0, .int .i64 2, .string ⟨#[67]⟩, .bool false, .int .u64 0, .slice none 0 0, .slice ak j ck, .slice none 0 0, .slice none 0 0] 48)) (fun _ => True) (modK n j) (some ⟨wr.heap.size, 0, none⟩) 1 (some ⟨wr.heap.size + 1, 0, none⟩) 1 := modK_at hd ((RowAt.of hy2 (fun _ _ => trivial)).move fun g _ lt => ⟨trivial, n2.block g lt⟩) hh
              have HC := Hd (acheck_any (modK n j) (modK_ok ⟨n, h6n⟩ ⟨j, h6k⟩) (modK_fo ⟨n, h6n⟩ ⟨j, h6k⟩) (modC_ar ⟨n, h6n⟩) (some ⟨wr.heap.size, 0, none⟩) 1 (some ⟨wr.heap.size + 1, 0, none⟩) 1 _ ((wr.alloc (.cells #[.string ⟨#[67]⟩, .int .i64 n] 36)).alloc (.cells #[.string ⟨#[109, 97, 105, 110]⟩, .slice none 0 0, .int .i64 2, .string ⟨#[67]⟩, .bool false, .int .u64 0, .slice none 0 0, .slice ak j ck, .slice none 0 0, .slice none 0 0] 48)) hmod (H1.out.2.below (onB' HW.out.2.2.2 (onB' HZ.out.2.2 n2))))
              rw [show arM (modK n j) = some (11, nmC) from (modK_ar ⟨n, h6n⟩ ⟨j, h6k⟩).2.trans (if_neg E1.out)] at HC
              have HX := Hd (Ai n2 (Ai hd (onB' HZ.out.2.2 n2)))
              have HY := Hd (Ai hy0 hy1)
              clear hy0 hy1 hyC hy2 n1 n2 z1 hd hh hmod
              go_wp2_with fail
              refine HC.out.mono ?_
              rintro e w5 ⟨rfl, hb5⟩
              have ea : stN (some ((11 : Int), nmC)) = (11, nmC) := rfl
              have eb : tx nmC = ⟨#[67]⟩ := rfl
              rw [ea, eb]
              clear ea eb
              have hq := onB' HX.out.1 hb5
              have g0 := HY.out.1.same (Bl (HY.out.1.1 0 _ rfl)) (hq.block _ (Bl (HY.out.1.1 0 _ rfl)))
              have g1 := HZ.out.1.same (Bl (HZ.out.1.1 0 _ rfl)) (hq.block _ (Bl (HZ.out.1.1 0 _ rfl)))
              have r0 : w5.cell? ⟨w1.heap.size, 0, none⟩ = some (.int .i64 3) := g0.1 0 _ rfl
              have r1 : w5.cell? ⟨w1.heap.size, 1, none⟩ = some (.string ⟨#[]⟩) := g0.1 1 _ rfl
              have r2 : w5.cell? ⟨w1.heap.size, 2, none⟩ = some (.bool false) := g0.1 2 _ rfl
              have r3 : w5.cell? ⟨w1.heap.size, 3, none⟩ = some (.int .u64 0) := g0.1 3 _ rfl
              have r4 : w5.cell? ⟨w1.heap.size, 4, none⟩ = some (.slice none 0 0) := g0.1 4 _ rfl
              have r5 : w5.cell? ⟨w1.heap.size, 5, none⟩ = some (.slice none 0 0) := g0.1 5 _ rfl
              have r6 : w5.cell? ⟨w1.heap.size, 6, none⟩ = some (.slice none 0 0) := g0.1 6 _ rfl
              have r7 : w5.cell? ⟨w1.heap.size, 7, none⟩ = some (.slice none 0 0) := g0.1 7 _ rfl
              have m1 := more1 w5 (.cells #[.int .i64 3, .string ⟨#[]⟩, .bool false, .int .u64 0, .slice none 0 0, .slice none 0 0, .slice none 0 0, .slice none 0 0] 46)
              have m2 := m1.alloc m1.size (.cells #[.int .i64 0, .string ⟨#[67]⟩, .bool false, .int .u64 0, .slice av i cc, .int .i64 3, .string ⟨#[]⟩, .bool false, .int .u64 0, .slice none 0 0, .slice none 0 0, .slice none 0 0, .slice none 0 0] 52)
              have m3 := m2.alloc m2.size (.cells #[.string ⟨#[109, 97, 105, 110]⟩, .slice none 0 0, .int .i64 7, .string ⟨#[]⟩, .bool false, .int .u64 0, .slice none 0 0, .slice (some ⟨w5.heap.size, 0, none⟩) 1 1, .slice none 0 0, .slice (some ⟨w5.heap.size + 1, 0, none⟩) 1 1] 48)
              have g2 := g1.same (Bl (g1.1 0 _ rfl)) (m1.block _ (Bl (g1.1 0 _ rfl)))
              have s0 : (w5.alloc (.cells #[.int .i64 3, .string ⟨#[]⟩, .bool false, .int .u64 0, .slice none 0 0, .slice none 0 0, .slice none 0 0, .slice none 0 0] 46)).cell? ⟨wA.heap.size, 0, none⟩ = some (.int .i64 0) := g2.1 0 _ rfl
              have s1 : (w5.alloc (.cells #[.int .i64 3, .string ⟨#[]⟩, .bool false, .int .u64 0, .slice none 0 0, .slice none 0 0, .slice none 0 0, .slice none 0 0] 46)).cell? ⟨wA.heap.size, 1, none⟩ = some (.string ⟨#[67]⟩) := g2.1 1 _ rfl
              have s2 : (w5.alloc (.cells #[.int .i64 3, .string ⟨#[]⟩, .bool false, .int .u64 0, .slice none 0 0, .slice none 0 0, .slice none 0 0, .slice none 0 0] 46)).cell? ⟨wA.heap.size, 2, none⟩ = some (.bool false) := g2.1 2 _ rfl
              have s3 : (w5.alloc (.cells #[.int .i64 3, .string ⟨#[]⟩, .bool false, .int .u64 0, .slice none 0 0, .slice none 0 0, .slice none 0 0, .slice none 0 0] 46)).cell? ⟨wA.heap.size, 3, none⟩ = some (.int .u64 0) := g2.1 3 _ rfl
              have s4 : (w5.alloc (.cells #[.int .i64 3, .string ⟨#[]⟩, .bool false, .int .u64 0, .slice none 0 0, .slice none 0 0, .slice none 0 0, .slice none 0 0] 46)).cell? ⟨wA.heap.size, 4, none⟩ = some (.slice av i cc) := g2.1 4 _ rfl
              have s5 : (w5.alloc (.cells #[.int .i64 3, .string ⟨#[]⟩, .bool false, .int .u64 0, .slice none 0 0, .slice none 0 0, .slice none 0 0, .slice none 0 0] 46)).cell? ⟨wA.heap.size, 5, none⟩ = some (.int .i64 3) := g2.1 5 _ rfl
              have s6 : (w5.alloc (.cells #[.int .i64 3, .string ⟨#[]⟩, .bool false, .int .u64 0, .slice none 0 0, .slice none 0 0, .slice none 0 0, .slice none 0 0] 46)).cell? ⟨wA.heap.size, 6, none⟩ = some (.string ⟨#[]⟩) := g2.1 6 _ rfl
              have s7 : (w5.alloc (.cells #[.int .i64 3, .string ⟨#[]⟩, .bool false, .int .u64 0, .slice none 0 0, .slice none 0 0, .slice none 0 0, .slice none 0 0] 46)).cell? ⟨wA.heap.size, 7, none⟩ = some (.bool false) := g2.1 7 _ rfl
              have s8 : (w5.alloc (.cells #[.int .i64 3, .string ⟨#[]⟩, .bool false, .int .u64 0, .slice none 0 0, .slice none 0 0, .slice none 0 0, .slice none 0 0] 46)).cell? ⟨wA.heap.size, 8, none⟩ = some (.int .u64 0) := g2.1 8 _ rfl
              have s9 : (w5.alloc (.cells #[.int .i64 3, .string ⟨#[]⟩, .bool false, .int .u64 0, .slice none 0 0, .slice none 0 0, .slice none 0 0, .slice none 0 0] 46)).cell? ⟨wA.heap.size, 9, none⟩ = some (.slice none 0 0) := g2.1 9 _ rfl
              have s10 : (w5.alloc (.cells #[.int .i64 3, .string ⟨#[]⟩, .bool false, .int .u64 0, .slice none 0 0, .slice none 0 0, .slice none 0 0, .slice none 0 0] 46)).cell? ⟨wA.heap.size, 10, none⟩ = some (.slice none 0 0) := g2.1 10 _ rfl
              have s11 : (w5.alloc (.cells #[.int .i64 3, .string ⟨#[]⟩, .bool false, .int .u64 0, .slice none 0 0, .slice none 0 0, .slice none 0 0, .slice none 0 0] 46)).cell? ⟨wA.heap.size, 11, none⟩ = some (.slice none 0 0) := g2.1 11 _ rfl
              have s12 : (w5.alloc (.cells #[.int .i64 3, .string ⟨#[]⟩, .bool false, .int .u64 0, .slice none 0 0, .slice none 0 0, .slice none 0 0, .slice none 0 0] 46)).cell? ⟨wA.heap.size, 12, none⟩ = some (.slice none 0 0) := g2.1 12 _ rfl
              have z1 : (w5.alloc (.cells #[.int .i64 3, .string ⟨#[]⟩, .bool false, .int .u64 0, .slice none 0 0, .slice none 0 0, .slice none 0 0, .slice none 0 0] 46)).heap.size = w5.heap.size + 1 := World.size_alloc ..
              have z2 : ((w5.alloc (.cells #[.int .i64 3, .string ⟨#[]⟩, .bool false, .int .u64 0, .slice none 0 0, .slice none 0 0, .slice none 0 0, .slice none 0 0] 46)).alloc (.cells #[.int .i64 0, .string ⟨#[67]⟩, .bool false, .int .u64 0, .slice av i cc, .int .i64 3, .string ⟨#[]⟩, .bool false, .int .u64 0, .slice none 0 0, .slice none 0 0, .slice none 0 0, .slice none 0 0] 52)).heap.size = w5.heap.size + 1 + 1 := by rw [World.size_alloc, z1]
              have k1 := heap_alloc_new w5 (.cells #[.int .i64 3, .string ⟨#[]⟩, .bool false, .int .u64 0, .slice none 0 0, .slice none 0 0, .slice none 0 0, .slice none 0 0] 46)
              have k2 := ((more1 (w5.alloc (.cells #[.int .i64 3, .string ⟨#[]⟩, .bool false, .int .u64 0, .slice none 0 0, .slice none 0 0, .slice none 0 0, .slice none 0 0] 46)) (.cells #[.int .i64 0, .string ⟨#[67]⟩, .bool false, .int .u64 0, .slice av i cc, .int .i64 3, .string ⟨#[]⟩, .bool false, .int .u64 0, .slice none 0 0, .slice none 0 0, .slice none 0 0, .slice none 0 0] 52)).block w5.heap.size (by rw [z1]; omega)).trans k1
              have k3 := ((more1 ((w5.alloc (.cells #[.int .i64 3, .string ⟨#[]⟩, .bool false, .int .u64 0, .slice none 0 0, .slice none 0 0, .slice none 0 0, .slice none 0 0] 46)).alloc (.cells #[.int .i64 0, .string ⟨#[67]⟩, .bool false, .int .u64 0, .slice av i cc, .int .i64 3, .string ⟨#[]⟩, .bool false, .int .u64 0, .slice none 0 0, .slice none 0 0, .slice none 0 0, .slice none 0 0] 52)) (.cells #[.string ⟨#[109, 97, 105, 110]⟩, .slice none 0 0, .int .i64 7, .string ⟨#[]⟩, .bool false, .int .u64 0, .slice none 0 0, .slice (some ⟨w5.heap.size, 0, none⟩) 1 1, .slice none 0 0, .slice (some ⟨w5.heap.size + 1, 0, none⟩) 1 1] 48)).block w5.heap.size (by rw [z2]; omega)).trans k2
              have a1 := heap_alloc_new (w5.alloc (.cells #[.int .i64 3, .string ⟨#[]⟩, .bool false, .int .u64 0, .slice none 0 0, .slice none 0 0, .slice none 0 0, .slice none 0 0] 46)) (.cells #[.int .i64 0, .string ⟨#[67]⟩, .bool false, .int .u64 0, .slice av i cc, .int .i64 3, .string ⟨#[]⟩, .bool false, .int .u64 0, .slice none 0 0, .slice none 0 0, .slice none 0 0, .slice none 0 0] 52)
              rw [z1] at a1
              have a2 := ((more1 ((w5.alloc (.cells #[.int .i64 3, .string ⟨#[]⟩, .bool false, .int .u64 0, .slice none 0 0, .slice none 0 0, .slice none 0 0, .slice none 0 0] 46)).alloc (.cells #[.int .i64 0, .string ⟨#[67]⟩, .bool false, .int .u64 0, .slice av i cc, .int .i64 3, .string ⟨#[]⟩, .bool false, .int .u64 0, .slice none 0 0, .slice none 0 0, .slice none 0 0, .slice none 0 0] 52)) (.cells #[.string ⟨#[109, 97, 105, 110]⟩, .slice none 0 0, .int .i64 7, .string ⟨#[]⟩, .bool false, .int .u64 0, .slice none 0 0, .slice (some ⟨w5.heap.size, 0, none⟩) 1 1, .slice none 0 0, .slice (some ⟨w5.heap.size + 1, 0, none⟩) 1 1] 48)).block (w5.heap.size + 1) (by rw [z2]; omega)).trans a1
              have b1 := heap_alloc_new ((w5.alloc (.cells #[.int .i64 3, .string ⟨#[]⟩, .bool false, .int .u64 0, .slice none 0 0, .slice none 0 0, .slice none 0 0, .slice none 0 0] 46)).alloc (.cells #[.int .i64 0, .string ⟨#[67]⟩, .bool false, .int .u64 0, .slice av i cc, .int .i64 3, .string ⟨#[]⟩, .bool false, .int .u64 0, .slice none 0 0, .slice none 0 0, .slice none 0 0, .slice none 0 0] 52)) (.cells #[.string ⟨#[109, 97, 105, 110]⟩, .slice none 0 0, .int .i64 7, .string ⟨#[]⟩, .bool false, .int .u64 0, .slice none 0 0, .slice (some ⟨w5.heap.size, 0, none⟩) 1 1, .slice none 0 0, .slice (some ⟨w5.heap.size + 1, 0, none⟩) 1 1] 48)
              rw [z2] at b1
              have hq3 := onB' hq m3
              have hd3 := ((onB' hb5 m3).block wr.heap.size (World.block_lt_of_cell? _ (⟨wr.heap.size, 0, none⟩ : Addr) (by rw [World.cell?, HX.out.2.1]; rfl))).trans HX.out.2.1
              have HG := Hd (acheck_any (modH n i) (modH_ok ⟨n, h6n⟩ ⟨i, h6m⟩) (modH_fo ⟨n, h6n⟩ ⟨i, h6m⟩) (modC_ar ⟨n, h6n⟩) (some ⟨wr.heap.size, 0, none⟩) 1 (some ⟨w5.heap.size + 1 + 1, 0, none⟩) 1 _ (((w5.alloc (.cells #[.int .i64 3, .string ⟨#[]⟩, .bool false, .int .u64 0, .slice none 0 0, .slice none 0 0, .slice none 0 0, .slice none 0 0] 46)).alloc (.cells #[.int .i64 0, .string ⟨#[67]⟩, .bool false, .int .u64 0, .slice av i cc, .int .i64 3, .string ⟨#[]⟩, .bool false, .int .u64 0, .slice none 0 0, .slice none 0 0, .slice none 0 0, .slice none 0 0] 52)).alloc (.cells #[.string ⟨#[109, 97, 105, 110]⟩, .slice none 0 0, .int .i64 7, .string ⟨#[]⟩, .bool false, .int .u64 0, .slice none 0 0, .slice (some ⟨w5.heap.size, 0, none⟩) 1 1, .slice none 0 0, .slice (some ⟨w5.heap.size + 1, 0, none⟩) 1 1] 48)) (modH_at hd3 ((RowAt.of HZ.out.2.1 (fun _ _ => trivial)).move fun g _ lt => ⟨trivial, hq3.block g lt⟩) k3 a2 b1) (H1.out.2.below (onB' HW.out.2.2.2 (onB' HX.out.2.2 (onB' hb5 m3)))))
              rw [show arM (modH n i) = some (11, nmC) from (modH_ar ⟨n, h6n⟩ ⟨i, h6m⟩).2.trans (if_neg E2.out)] at HG
              have HQ := Hd (onB' HW.out.2.2.2 (onB' HX.out.2.2 (onB' hb5 m3)))
              clear hq g0 g1 g2 m1 m2 m3 z1 z2 k1 k2 k3 a1 a2 b1 hq3 hd3 hb5 HC HX HY
              go_wp2_with fail
              refine HG.out.mono ?_
              rintro e w6 ⟨rfl, hb6⟩
              have HR := Hd (onB' H1.out.1 (onB' HQ.out hb6))
              have ea : stN (some ((11 : Int), nmC)) = (11, nmC) := rfl
              have eb : tx nmC = ⟨#[67]⟩ := rfl
              rw [ea, eb]
              clear ea eb hb6 HG
              have f1 : ((n : Int) == (j : Int)) = false := beq_eq_false_iff_ne.2 (fun q => E1.out (by omega))
              have f2 : ((n : Int) == (i : Int)) = false := beq_eq_false_iff_ne.2 (fun q => E2.out (by omega))
              go_wp2_with fail
              go_ret
              exact ⟨rfl, HR.out⟩
end Go.Proofs.YtdjcdecbmeickaaDoor
