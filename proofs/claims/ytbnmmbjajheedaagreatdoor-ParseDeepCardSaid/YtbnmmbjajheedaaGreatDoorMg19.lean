import Derived.Test.YtbnmmbjajheedaaGreatDoorMg3
import Derived.Test.YtbnmmbjajheedaaGreatDoorMg16
import Derived.Test.YtbnmmbjajheedaaGreatDoorMg18
/- ParseDeep: its walk. -/
namespace Go.Proofs.YtbnmmbjajheedaaGreatDoor
open Go.RowKit Go.Lib

set_option maxHeartbeats 16000000 in
set_option maxRecDepth 100000 in
theorem deep_walk (n : Int) (more : Bool) (w : World) (hS : SG w) (hE : EE w) (hV : Shs w) :
    Calls Tryz.prog 7 #[.int .i64 n, .bool more] w fun e w' => e = .returned (.bool true) ∧ Below w.heap.size w w' := by
  have HSE := Lib.hid (And.intro hS (And.intro hE hV))
  clear hS hE hV
  go_enter Tryz.func7, Tryz.ntmps7
  go_wp2_with fail
  refine (pawake_any w HSE.out.1 HSE.out.2.1 HSE.out.2.2).mono ?_
  rintro e w1 ⟨rfl, hb⟩
  have H1 := Lib.hid (And.intro hb (And.intro (HSE.out.1.below hb) (And.intro (HSE.out.2.1.below hb) (HSE.out.2.2.below hb))))
  clear hb HSE
  by_cases g1 : n < 0
  · go_wp2_with fail
    go_ret
    exact ⟨rfl, H1.out.1⟩
  by_cases g2 : 300 < n
  · go_wp2_with fail
    go_ret
    exact ⟨rfl, H1.out.1⟩
  obtain ⟨N, rfl⟩ : ∃ N : Nat, n = (N : Int) := ⟨n.toNat, by omega⟩
  have hN : N ≤ 300 := by omega
  clear g1 g2
  go_wp2_with fail
  go_loop [5, 6, 7] (fun s5 s6 s7 => ∃ (k : Nat) (A B : ByteArray), k ≤ N ∧ s5 = .string A ∧ s6 = .string B ∧ s7 = .int .i64 k ∧ Hid (A.data.toList = List.replicate k 40 ∧ B.data.toList = List.replicate k 41)) (fun _ _ s7 => N - (RowKit.intOf s7).toNat)
  case atStart => exact ⟨0, ⟨#[]⟩, ⟨#[]⟩, Nat.zero_le _, rfl, rfl, rfl, Lib.hid ⟨rfl, rfl⟩⟩
  case round =>
    obtain ⟨k, A, B, hk, rfl, rfl, rfl, HAB⟩ := hrel
    have hA : A.size = k := by rw [size_eq, HAB.out.1, List.length_replicate]
    have hB : B.size = k := by rw [size_eq, HAB.out.2, List.length_replicate]
    by_cases hlt : k < N
    · have hlt' : (k : Int) < (N : Int) := by omega
      have hm1 : A.size + 1 ≤ 400 := by omega
      have hm2 : B.size + 1 ≤ 400 := by omega
      have ek : IntKind.i64.wrap ((k : Int) + 1) = (k : Int) + 1 := by rw [IntKind.wrap_i64]; omega
      clear hA hB
      go_wp2_with fail
      exact ⟨⟨k + 1, A ++ ⟨#[40]⟩, B ++ ⟨#[41]⟩, by omega, rfl, rfl, by go_num, Lib.hid ⟨by rw [cat_list, HAB.out.1, List.replicate_succ'], by rw [cat_list, HAB.out.2, List.replicate_succ']⟩⟩, by simp [RowKit.intOf]; omega⟩
    · obtain rfl : k = N := by omega
      cases more with
      | false =>
        have htx : (⟨#[102, 61]⟩ ++ A ++ ⟨#[120]⟩ ++ B ++ ⟨#[59]⟩ : ByteArray).data.toList = 102 :: 61 :: deepB k [59] := by
          rw [cat_list, cat_list, cat_list, cat_list, HAB.out.1, HAB.out.2]
          simp [deepB]
        have hlx := lexL_plain k hN
        rw [← htx] at hlx
        have hmo : modL (⟨#[102, 61]⟩ ++ A ++ ⟨#[120]⟩ ++ B ++ ⟨#[59]⟩ : ByteArray).data.toList = parseO (plainT k) := by unfold modL; rw [hlx]
        have hpu := plain_pure (lexL_tvs hlx)
        have hz : (⟨#[102, 61]⟩ ++ A ++ ⟨#[120]⟩ ++ B ++ ⟨#[59]⟩ : ByteArray).size ≤ 1000 := by rw [size_eq, htx]; simp only [List.length_cons, deepB_len, List.length_nil]; omega
        have HZ := Lib.hid (And.intro hmo hpu)
        have HP := Lib.hid (parsed_any (⟨#[102, 61]⟩ ++ A ++ ⟨#[120]⟩ ++ B ++ ⟨#[59]⟩) (Nat.le_trans hz (by decide)) w1 H1.out.2.1 H1.out.2.2.1 H1.out.2.2.2)
        have hm1 : A.size + 2 ≤ 400 := by omega
        have hm2 : A.size + 2 + 1 ≤ 400 := by omega
        have hm3 : A.size + 2 + 1 + B.size ≤ 800 := by omega
        have hm4 : A.size + 2 + 1 + B.size + 1 ≤ 800 := by omega

        have HK := Lib.hid hN
        clear htx hlx hmo hpu hz hA hB
        go_wp2_with fail
        refine HP.out.mono ?_
        rintro e w2 ⟨hv, hb2⟩
        have hv1 : ParsedV w1.heap.size (parseO (plainT k)) e w2 := by rw [← HZ.out.1]; exact hv
        have H2 := Lib.hid (onB' H1.out.1 hb2)
        clear hv hb2 HP
        rcases HZ.out.2 with ⟨hn, l, r, hp⟩ | ⟨hn, hp⟩
        · rw [hp] at hv1
          obtain ⟨vc, vb, xb, rfl, hc, hbb, ht⟩ := hv1
          replace hc : w2.ownsRow w1.heap.size 67 2 vc 0 [] := hc
          replace hbb : w2.ownsRow w1.heap.size 51 10 vb 1 xb := hbb
          replace ht : BndsAt w2 (fun g => w1.heap.size ≤ g) [([102], [], .leaf 1 [120])] xb := ht
          obtain ⟨a1, c1, rfl, -⟩ := own_shape hc
          obtain ⟨a2, c2, rfl, -⟩ := own_shape hbb
          obtain ⟨g2, ea2, kk2, ht2⟩ := own_at hbb (by decide)
          subst ea2
          obtain ⟨vq, k1, s1, f1, y1, vp1, vk1, vb1, va1, r1, z, z0, z1, z2, z3, z4, z5, z6, z7, z8, z9⟩ := ht.at 0 (by decide)
          change ExAt w2 _ (.leaf 1 [120]) _ at z
          cases z with
          | mk k' nm f u ps ks bs al _ _ _ _ xk xb' xa hp1 hk1 hb1 ha1 tk1 tb1 ta1 =>
          have hx := (Below.refl w2.heap.size w2).alloc (Nat.le_refl _) (.cells #[.slice a1 0 c1, .slice (some ⟨g2, 0, none⟩) 1 c2] 26)
          have m1 : (w2.alloc (.cells #[.slice a1 0 c1, .slice (some ⟨g2, 0, none⟩) 1 c2] 26)).cell? ⟨w2.heap.size, 1, none⟩ = some (.slice (some ⟨g2, 0, none⟩) 1 c2) := by simp [go_sem]
          obtain ⟨ap, cp, rfl⟩ := hp1.sl
          obtain ⟨ak, ck, rfl⟩ := hk1.sl
          obtain ⟨ab, cb, rfl⟩ := hb1.sl
          obtain ⟨aa, ca, rfl⟩ := ha1.sl
          have p2 : w2.cell? ⟨g2, 2, none⟩ = some (.int .i64 1) := ht2 _ _ z2
          have p3 : w2.cell? ⟨g2, 3, none⟩ = some (.string ⟨#[120]⟩) := ht2 _ _ z3
          have p4 : w2.cell? ⟨g2, 4, none⟩ = some (.bool false) := ht2 _ _ z4
          have p5 : w2.cell? ⟨g2, 5, none⟩ = some (.int .u64 0) := ht2 _ _ z5
          have p6 : w2.cell? ⟨g2, 6, none⟩ = some (.slice ap 0 cp) := ht2 _ _ z6
          have p7 : w2.cell? ⟨g2, 7, none⟩ = some (.slice ak 0 ck) := ht2 _ _ z7
          have p8 : w2.cell? ⟨g2, 8, none⟩ = some (.slice ab 0 cb) := ht2 _ _ z8
          have p9 : w2.cell? ⟨g2, 9, none⟩ = some (.slice aa 0 ca) := ht2 _ _ z9
          replace p2 := later' hx p2
          replace p3 := later' hx p3
          replace p4 := later' hx p4
          replace p5 := later' hx p5
          replace p6 := later' hx p6
          replace p7 := later' hx p7
          replace p8 := later' hx p8
          replace p9 := later' hx p9
          have kc2 : 1 ≤ c2 := kk2
          have HX := Lib.hid (onB' H2.out hx)
          have g199 : ¬ (199 : Int) < (k : Int) := by omega
          skip
          clear hc hbb ht ht2 z0 z1 z2 z3 z4 z5 z6 z7 z8 z9 hx hp1 hk1 hb1 ha1 tk1 tb1 ta1 r1  kk2
          go_upto_region 16 with fail
          generalize (w2.alloc (.cells #[.slice a1 0 c1, .slice (some ⟨g2, 0, none⟩) 1 c2] 26)) = W at *
          go_wp2_with fail
          go_ret
          have hs2 := H2.out.size
          refine ⟨rfl, ?_⟩
          repeat refine below_new ?_ _ _ _ (by omega)
          first
            | exact HX.out
            | exact HX.out.alloc HX.out.size _
        · rw [hp] at hv1
          obtain ⟨-, rfl⟩ := hv1
          have hx := (Below.refl w2.heap.size w2).alloc (Nat.le_refl _) (.cells #[.slice none 0 0, .slice none 0 0] 26)
          have m1 : (w2.alloc (.cells #[.slice none 0 0, .slice none 0 0] 26)).cell? ⟨w2.heap.size, 1, none⟩ = some (.slice none 0 0) := by simp [go_sem]
          have HX := Lib.hid (onB' H2.out hx)
          have g199 : (199 : Int) < (k : Int) := by omega
          have g198 : (199 : Int) ≤ (k : Int) := by omega
          clear hx
          go_upto_region 16 with fail
          generalize (w2.alloc (.cells #[.slice none 0 0, .slice none 0 0] 26)) = W at *
          go_wp2_with fail
          go_ret
          exact ⟨rfl, HX.out⟩
      | true =>
        have htx : (⟨#[102, 61, 108, 101, 116, 32, 103, 61]⟩ ++ A ++ ⟨#[120]⟩ ++ B ++ ⟨#[32, 105, 110, 32, 103, 59]⟩ : ByteArray).data.toList = 102 :: 61 :: 108 :: 101 :: 116 :: 32 :: 103 :: 61 :: deepB k [32, 105, 110, 32, 103, 59] := by
          rw [cat_list, cat_list, cat_list, cat_list, HAB.out.1, HAB.out.2]
          simp [deepB]
        have hlx := lexL_more k hN
        rw [← htx] at hlx
        have hmo : modL (⟨#[102, 61, 108, 101, 116, 32, 103, 61]⟩ ++ A ++ ⟨#[120]⟩ ++ B ++ ⟨#[32, 105, 110, 32, 103, 59]⟩ : ByteArray).data.toList = parseO (moreT k) := by unfold modL; rw [hlx]
        have hpu := more_pure (lexL_tvs hlx)
        have hz : (⟨#[102, 61, 108, 101, 116, 32, 103, 61]⟩ ++ A ++ ⟨#[120]⟩ ++ B ++ ⟨#[32, 105, 110, 32, 103, 59]⟩ : ByteArray).size ≤ 1000 := by rw [size_eq, htx]; simp only [List.length_cons, deepB_len, List.length_nil]; omega
        have HZ := Lib.hid (And.intro hmo hpu)
        have HP := Lib.hid (parsed_any (⟨#[102, 61, 108, 101, 116, 32, 103, 61]⟩ ++ A ++ ⟨#[120]⟩ ++ B ++ ⟨#[32, 105, 110, 32, 103, 59]⟩) (Nat.le_trans hz (by decide)) w1 H1.out.2.1 H1.out.2.2.1 H1.out.2.2.2)
        have hm1 : A.size + 8 ≤ 400 := by omega
        have hm2 : A.size + 8 + 1 ≤ 400 := by omega
        have hm3 : A.size + 8 + 1 + B.size ≤ 800 := by omega
        have hm4 : A.size + 8 + 1 + B.size + 6 ≤ 800 := by omega
        have ek : IntKind.i64.wrap ((k : Int) + 1) = (k : Int) + 1 := by rw [IntKind.wrap_i64]; omega
        have HK := Lib.hid hN
        clear htx hlx hmo hpu hz hA hB
        go_wp2_with fail
        refine HP.out.mono ?_
        rintro e w2 ⟨hv, hb2⟩
        have hv1 : ParsedV w1.heap.size (parseO (moreT k)) e w2 := by rw [← HZ.out.1]; exact hv
        have H2 := Lib.hid (onB' H1.out.1 hb2)
        clear hv hb2 HP
        rcases HZ.out.2 with ⟨hn, l, r, hp⟩ | ⟨hn, hp⟩
        · rw [hp] at hv1
          obtain ⟨vc, vb, xb, rfl, hc, hbb, ht⟩ := hv1
          replace hc : w2.ownsRow w1.heap.size 67 2 vc 0 [] := hc
          replace hbb : w2.ownsRow w1.heap.size 51 10 vb 1 xb := hbb
          replace ht : BndsAt w2 (fun g => w1.heap.size ≤ g) [([102], [], .mk 6 [] false 0 [] [.leaf 1 [103]] [([103], [], .leaf 1 [120])] [])] xb := ht
          obtain ⟨a1, c1, rfl, -⟩ := own_shape hc
          obtain ⟨a2, c2, rfl, -⟩ := own_shape hbb
          obtain ⟨g2, ea2, kk2, ht2⟩ := own_at hbb (by decide)
          subst ea2
          obtain ⟨vq, k1, s1, f1, y1, vp1, vk1, vb1, va1, r1, z, z0, z1, z2, z3, z4, z5, z6, z7, z8, z9⟩ := ht.at 0 (by decide)
          change ExAt w2 _ (.mk 6 [] false 0 [] [.leaf 1 [103]] [([103], [], .leaf 1 [120])] []) _ at z
          cases z with
          | mk k' nm f u ps ks bs al _ _ _ _ xk xb' xa hp1 hk1 hb1 ha1 tk1 tb1 ta1 =>
          have hx := (Below.refl w2.heap.size w2).alloc (Nat.le_refl _) (.cells #[.slice a1 0 c1, .slice (some ⟨g2, 0, none⟩) 1 c2] 26)
          have m1 : (w2.alloc (.cells #[.slice a1 0 c1, .slice (some ⟨g2, 0, none⟩) 1 c2] 26)).cell? ⟨w2.heap.size, 1, none⟩ = some (.slice (some ⟨g2, 0, none⟩) 1 c2) := by simp [go_sem]
          obtain ⟨a8, c8, rfl⟩ := hb1.sl
          obtain ⟨g8, o8, ea8, kk8, mk8, -, ht8⟩ := hb1.at (by decide)
          subst ea8
          change BndsAt w2 _ [([103], [], .leaf 1 [120])] _ at tb1
          obtain ⟨vq3, k3, s3, f3, y3, vp3, vk3, vb3, va3, r3, z3', j0, j1, j2, j3, j4, j5, j6, j7, j8, j9⟩ := tb1.at 0 (by decide)
          change ExAt w2 _ (.leaf 1 [120]) _ at z3'
          cases z3' with
          | mk k5 nm5 f5 u5 ps5 ks5 bs5 al5 _ _ _ _ xk5 xb5 xa5 hp5 hk5 hb5 ha5 tk5 tb5 ta5 =>
          obtain ⟨ap, cp, rfl⟩ := hp1.sl
          obtain ⟨ak, ck, rfl⟩ := hk1.sl
          obtain ⟨aa, ca, rfl⟩ := ha1.sl
          have p2 : w2.cell? ⟨g2, 2, none⟩ = some (.int .i64 6) := ht2 _ _ z2
          have p3 : w2.cell? ⟨g2, 3, none⟩ = some (.string ⟨#[]⟩) := ht2 _ _ z3
          have p4 : w2.cell? ⟨g2, 4, none⟩ = some (.bool false) := ht2 _ _ z4
          have p5 : w2.cell? ⟨g2, 5, none⟩ = some (.int .u64 0) := ht2 _ _ z5
          have p6 : w2.cell? ⟨g2, 6, none⟩ = some (.slice ap 0 cp) := ht2 _ _ z6
          have p7 : w2.cell? ⟨g2, 7, none⟩ = some (.slice ak 1 ck) := ht2 _ _ z7
          have p8 : w2.cell? ⟨g2, 8, none⟩ = some (.slice (some ⟨g8, o8, none⟩) 1 c8) := ht2 _ _ z8
          have p9 : w2.cell? ⟨g2, 9, none⟩ = some (.slice aa 0 ca) := ht2 _ _ z9
          have q2 : w2.cell? ⟨g8, o8 + 2, none⟩ = some (.int .i64 1) := ht8 _ _ j2
          have kc8 : 1 ≤ c8 := kk8
          replace q2 := later' hx q2
          replace p2 := later' hx p2
          replace p3 := later' hx p3
          replace p4 := later' hx p4
          replace p5 := later' hx p5
          replace p6 := later' hx p6
          replace p7 := later' hx p7
          replace p8 := later' hx p8
          replace p9 := later' hx p9
          have kc2 : 1 ≤ c2 := kk2
          have HX := Lib.hid (onB' H2.out hx)
          have g199 : ¬ (199 : Int) < (k : Int) + 1 := by omega
          have g198 : ¬ (199 : Int) ≤ (k : Int) := by omega
          clear hc hbb ht ht2 z0 z1 z2 z3 z4 z5 z6 z7 z8 z9 hx hp1 hk1 hb1 ha1 tk1 tb1 ta1 r1 ht8 j0 j1 j2 j3 j4 j5 j6 j7 j8 j9 hp5 hk5 hb5 ha5 tk5 tb5 ta5 r3 mk8 kk8 kk2
          go_upto_region 16 with fail
          generalize (w2.alloc (.cells #[.slice a1 0 c1, .slice (some ⟨g2, 0, none⟩) 1 c2] 26)) = W at *
          have hlt8 := World.block_lt_of_cell? _ _ q2
          simp only at hlt8
          have hne8 : g8 ≠ W.heap.size := by omega
          go_wp2_with fail
          go_ret
          have hs2 := H2.out.size
          refine ⟨rfl, ?_⟩
          repeat refine below_new ?_ _ _ _ (by omega)
          first
            | exact HX.out
            | exact HX.out.alloc HX.out.size _
        · rw [hp] at hv1
          obtain ⟨-, rfl⟩ := hv1
          have hx := (Below.refl w2.heap.size w2).alloc (Nat.le_refl _) (.cells #[.slice none 0 0, .slice none 0 0] 26)
          have m1 : (w2.alloc (.cells #[.slice none 0 0, .slice none 0 0] 26)).cell? ⟨w2.heap.size, 1, none⟩ = some (.slice none 0 0) := by simp [go_sem]
          have HX := Lib.hid (onB' H2.out hx)
          have g199 : (199 : Int) < (k : Int) + 1 := by omega
          have g198 : (199 : Int) ≤ (k : Int) := by omega
          clear hx
          go_upto_region 16 with fail
          generalize (w2.alloc (.cells #[.slice none 0 0, .slice none 0 0] 26)) = W at *
          go_wp2_with fail
          refine bodyPost_ret (v := .bool true) (by simp [results, Tryz.results7, go_sem]) rfl ?_
          exact ⟨rfl, HX.out⟩

end Go.Proofs.YtbnmmbjajheedaaGreatDoor
