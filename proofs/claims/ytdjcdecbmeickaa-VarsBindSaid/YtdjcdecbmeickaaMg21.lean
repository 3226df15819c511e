import Derived.Test.YtdjcdecbmeickaaMg20
namespace Go.Proofs.Ytdjcdecbmeickaa
set_option maxHeartbeats 64000000
set_option maxRecDepth 100000
open Go.RowKit Go.Lib
def letX (nl : Nm) (e : Ex) : Ex := .mk 6 [] false 0 [] [.leaf 1 nl] [(nl, [], e)] []
theorem one_nmv {nl : Nm} (h : nl.length ≤ 140737488355328) : Nmv [nl] := fun x hx => by rw [List.mem_singleton.1 hx]; exact ⟨trivial, h⟩
theorem lamX_wv {e : Ex} (h : wvE e) {s : List Nm} (hs : Nmv s) : wvE (lamX s e) := by
  unfold lamX wvE
  refine ⟨(fun g => by omega), hs, ?_, ?_, ?_⟩
  · unfold wvEs wvEs; exact ⟨h, trivial⟩
  · unfold wvBs; trivial
  · unfold wvAs; trivial
theorem leafX_wv {nl : Nm} (h : nl.length ≤ 140737488355328) : wvE (.leaf 1 nl) := by
  show wvE (.mk 1 nl false 0 [] [] [] [])
  unfold wvE
  refine ⟨(fun _ => ⟨trivial, h⟩), (fun x hx => by cases hx), ?_, ?_, ?_⟩
  · unfold wvEs; trivial
  · unfold wvBs; trivial
  · unfold wvAs; trivial
theorem letX_wv {e : Ex} (h : wvE e) {nl : Nm} (hs : nl.length ≤ 140737488355328) : wvE (letX nl e) := by
  unfold letX wvE
  refine ⟨(fun g => by omega), (fun x hx => by cases hx), ?_, ?_, ?_⟩
  · unfold wvEs wvEs; exact ⟨leafX_wv hs, trivial⟩
  · unfold wvBs wvBs; exact ⟨⟨⟨trivial, hs⟩, (fun x hx => by cases hx), h⟩, trivial⟩
  · unfold wvAs; trivial
theorem letX_wt (e : Ex) (nl : Nm) : wtE (letX nl e) ≤ wtE e + 4 := by
  unfold letX
  rw [wtE_mk]
  have h : wtE (.leaf 1 nl) = 1 := by
    show wtE (.mk 1 nl false 0 [] [] [] []) = 1
    rw [wtE_mk]
    simp [sumN]
  simp [sumN, h, nB2]
  omega
theorem leafX_at (W : World) (K : Nat → Prop) (nl : Nm) : ExAt W K (.leaf 1 nl) [.int .i64 1, .string (tx nl), .bool false, .int .u64 0, .slice none 0 0, .slice none 0 0, .slice none 0 0, .slice none 0 0] :=
  .mk 1 nl false 0 [] [] [] [] (.slice none 0 0) (.slice none 0 0) (.slice none 0 0) (.slice none 0 0) [] [] [] (row_none _ _ _ _) (row_none _ _ _ _) (row_none _ _ _ _) (row_none _ _ _ _) .nil .nil .nil
theorem letX_at {W : World} {K3 : Nat → Prop} {e : Ex} {nl : Nm} {a2 a3 : Option Addr} {c2 c3 : Nat} {xs : List Value} (h2 : RowAt W (fun _ => True) 34 8 (.slice a2 1 c2) 1 [.int .i64 1, .string (tx nl), .bool false, .int .u64 0, .slice none 0 0, .slice none 0 0, .slice none 0 0, .slice none 0 0]) (hb : RowAt W (fun _ => True) 36 10 (.slice a3 1 c3) 1 (.string (tx nl) :: .slice none 0 0 :: xs)) (h3 : ExAt W K3 e xs) :
    ExAt W (fun g => g < W.heap.size) (letX nl e) [.int .i64 6, .string (tx []), .bool false, .int .u64 0, .slice none 0 0, .slice a2 1 c2, .slice a3 1 c3, .slice none 0 0] := by
  have hk := ExsAt.cons (.leaf 1 nl) [] [.int .i64 1, .string (tx nl), .bool false, .int .u64 0, .slice none 0 0, .slice none 0 0, .slice none 0 0, .slice none 0 0] [] (leafX_at W (fun g => g < W.heap.size) nl) .nil
  have hbd := BndsAt.cons nl [] e [] (.slice none 0 0) xs [] (row_none W (fun g => g < W.heap.size) _ _) (h3.move (K' := fun g => g < W.heap.size) fun g _ lt => ⟨lt, rfl⟩) .nil
  rw [List.append_nil] at hbd
  exact .mk 6 [] false 0 [] [.leaf 1 nl] [(nl, [], e)] [] (.slice none 0 0) (.slice a2 1 c2) (.slice a3 1 c3) (.slice none 0 0) [.int .i64 1, .string (tx nl), .bool false, .int .u64 0, .slice none 0 0, .slice none 0 0, .slice none 0 0, .slice none 0 0] (.string (tx nl) :: .slice none 0 0 :: xs) [] (row_none _ _ _ _) (h2.move fun g _ lt => ⟨lt, rfl⟩) (hb.move fun g _ lt => ⟨lt, rfl⟩) (row_none _ _ _ _) hk hbd .nil
theorem new_row {e : TypeId} {size : Nat} (w : World) (cs : Array Value) (n : Nat) (hm : n ≤ maxLen) (hs : cs.size = n * size) : RowAt (w.alloc (.cells cs e)) (fun _ => True) e size (.slice (some ⟨w.heap.size, 0, none⟩) n n) n cs.toList := own_row (World.ownsRow_lit (base := 0) w cs n (Nat.zero_le _) hm hs) Br
theorem new_rows {e1 e2 : TypeId} {s1 s2 : Nat} (w : World) (c1 c2 : Array Value) (n1 n2 : Nat) (m1 : n1 ≤ maxLen) (m2 : n2 ≤ maxLen) (h1 : c1.size = n1 * s1) (h2 : c2.size = n2 * s2) :
    RowAt ((w.alloc (.cells c1 e1)).alloc (.cells c2 e2)) (fun _ => True) e1 s1 (.slice (some ⟨w.heap.size, 0, none⟩) n1 n1) n1 c1.toList ∧ RowAt ((w.alloc (.cells c1 e1)).alloc (.cells c2 e2)) (fun _ => True) e2 s2 (.slice (some ⟨w.heap.size + 1, 0, none⟩) n2 n2) n2 c2.toList ∧ Below w.heap.size w ((w.alloc (.cells c1 e1)).alloc (.cells c2 e2)) := by
  have hb := (Below.refl (w.alloc (.cells c1 e1)).heap.size (w.alloc (.cells c1 e1))).alloc Nr (.cells c2 e2)
  refine ⟨(new_row w c1 n1 m1 h1).below hb, ?_, onB' ((Below.refl _ w).alloc Nr _) hb⟩
  have h := new_row (e := e2) (size := s2) (w.alloc (.cells c1 e1)) c2 n2 m2 h2
  rwa [show (w.alloc (.cells c1 e1)).heap.size = w.heap.size + 1 by simp] at h
theorem vbind_walk (s name : ByteArray) (hname : name.size ≤ 140737488355328) (w : World) :
    Calls Try.prog 5 #[.string s, .string name] w fun e w' => e = .returned (.bool true) ∧ Below w.heap.size w w' := by
  obtain ⟨nl, hnl⟩ : ∃ nl : Nm, name = tx nl := ⟨name.data.toList, by cases name; simp [tx]⟩
  subst hnl
  have hnl : nl.length ≤ 140737488355328 := by
    have : (tx nl).size = nl.length := by simp [tx, ByteArray.size]
    omega
  clear hname
  go_enter Try.func5, Try.ntmps5
  go_wp2_with fail
  refine (vawake_any w).mono ?_
  rintro e w1 ⟨rfl, hb⟩
  have H1 := Hd hb
  clear hb
  by_cases g3 : 3000 < s.size
  · have f3 : decide ((3000 : Int) < (s.size : Int)) = true := decide_eq_true (by omega)
    go_wp2_with fail
    go_ret
    exact ⟨rfl, H1.out⟩
  have f3 : decide ((3000 : Int) < (s.size : Int)) = false := decide_eq_false (by omega)
  have HP := Hd (law_told s (by omega) w1)
  have hsl : s.data.toList.length ≤ 100000 := by
    have := size_eq s
    omega
  go_wp2_with fail
  clear f3
  refine HP.out.mono ?_
  rintro e w2 ⟨⟨ab, cb, cs, rfl, hr, hbd⟩, hbl⟩
  have hok := bindsL_ok hsl
  have hle := bindsL_le (l := s.data.toList)
  generalize bindsL s.data.toList = L at *
  have hmx := hr.cap
  unfold maxLen at hmx
  have HV := Hd (Ai hr (Ai hbd (Ai (onB' H1.out hbl) hok.1)))
  clear hr hbd hbl hok HP hsl
  go_wp2_with fail
  go_loopw [6] (fun s6 wr => ∃ j : Nat, j ≤ L.length ∧ s6 = .int .i64 j ∧ Below w2.heap.size w2 wr) (fun s6 _ => L.length - (RowKit.intOf s6).toNat)
  case atStart => exact ⟨0, Nat.zero_le _, rfl, Below.refl _ _⟩
  case round =>
    obtain ⟨j, hj, rfl, hbr⟩ := hrel
    have HR := Hd hbr
    clear hbr
    by_cases gj : j < L.length
    · have gj' : (j : Int) < (L.length : Int) := by omega
      obtain ⟨aq, cq, k, nm, f, u, ap, np, cp, ak, nk, ck, ab', nb, cb', aa, na, ca, -, hE, hc⟩ := HV.out.2.1.cells j gj
      obtain ⟨g1, o1, ea1, k1, m1', -, ht1⟩ := HV.out.1.at (by omega)
      subst ea1
      have HPc := Hd (fun i v h => ht1 _ _ (hc i v h))
      have hwf := (HV.out.2.2.2 L[j] (List.getElem_mem gj)).2.2
      have hwt : wtE L[j].2.2 ≤ 4096 := by
        have := sumN_mem nB (List.getElem_mem gj)
        unfold nB at this hle
        omega
      generalize L[j].2.2 = x at *
      have hbx := (Below.refl wr.heap.size wr).alloc Nr (.cells #[.int .i64 k, .string (tx nm), .bool f, .int .u64 u, .slice ap np cp, .slice ak nk ck, .slice ab' nb cb', .slice aa na ca] 34)
      have hBx := BoxW.alloc wr #[.int .i64 k, .string (tx nm), .bool f, .int .u64 u, .slice ap np cp, .slice ak nk ck, .slice ab' nb cb', .slice aa na ca] 34
      have HX := Hd (Ai (wvE_of x hwf) (hE.move (K' := fun _ => True) fun g hk lt => ⟨trivial, (onB' HR.out hbx).block g lt⟩))
      have HBX := Hd (Ai hbx hBx)
      clear ht1 hc hE hwf hbx hBx
      have p2 : wr.cell? ⟨g1, o1 + j * 10 + 2, none⟩ = some (.int .i64 k) := by rw [Nat.add_assoc]; exact later' HR.out (HPc.out 2 _ rfl)
      have p3 : wr.cell? ⟨g1, o1 + j * 10 + 3, none⟩ = some (.string (tx nm)) := by rw [Nat.add_assoc]; exact later' HR.out (HPc.out 3 _ rfl)
      have p4 : wr.cell? ⟨g1, o1 + j * 10 + 4, none⟩ = some (.bool f) := by rw [Nat.add_assoc]; exact later' HR.out (HPc.out 4 _ rfl)
      have p5 : wr.cell? ⟨g1, o1 + j * 10 + 5, none⟩ = some (.int .u64 u) := by rw [Nat.add_assoc]; exact later' HR.out (HPc.out 5 _ rfl)
      have p6 : wr.cell? ⟨g1, o1 + j * 10 + 6, none⟩ = some (.slice ap np cp) := by rw [Nat.add_assoc]; exact later' HR.out (HPc.out 6 _ rfl)
      have p7 : wr.cell? ⟨g1, o1 + j * 10 + 7, none⟩ = some (.slice ak nk ck) := by rw [Nat.add_assoc]; exact later' HR.out (HPc.out 7 _ rfl)
      have p8 : wr.cell? ⟨g1, o1 + j * 10 + 8, none⟩ = some (.slice ab' nb cb') := by rw [Nat.add_assoc]; exact later' HR.out (HPc.out 8 _ rfl)
      have p9 : wr.cell? ⟨g1, o1 + j * 10 + 9, none⟩ = some (.slice aa na ca) := by rw [Nat.add_assoc]; exact later' HR.out (HPc.out 9 _ rfl)
      have ej : IntKind.i64.wrap ((j : Int) + 1) = (j : Int) + 1 := by rw [IntKind.wrap_i64]; omega
      have b0 : (0 : Int) ≤ (j : Int) := by omega
      go_upto_region 10 with fail
      generalize hgW : wr.alloc (.cells #[.int .i64 k, .string (tx nm), .bool f, .int .u64 u, .slice ap np cp, .slice ak nk ck, .slice ab' nb cb', .slice aa na ca] 34) = W at *
      have HFr := Hd (fun (V : World) (hb : Below W.heap.size W V) => vfree_said x HX.out.1 (by omega) k nm f u ap np cp ak nk ck ab' nb cb' aa na ca (fun _ => True) V (HX.out.2.move fun g hk lt => ⟨hk, hb.block g lt⟩))
      have HW := Hd (onB' HR.out HBX.out.1)
      clear p2 p3 p4 p5 p6 p7 p8 p9 HPc hgW
      have bw0 : W.cell? ⟨wr.heap.size, 0, none⟩ = some (.int .i64 k) := HBX.out.2.1 0 _ rfl
      have bw1 : W.cell? ⟨wr.heap.size, 1, none⟩ = some (.string (tx nm)) := HBX.out.2.1 1 _ rfl
      have bw2 : W.cell? ⟨wr.heap.size, 2, none⟩ = some (.bool f) := HBX.out.2.1 2 _ rfl
      have bw3 : W.cell? ⟨wr.heap.size, 3, none⟩ = some (.int .u64 u) := HBX.out.2.1 3 _ rfl
      have bw4 : W.cell? ⟨wr.heap.size, 4, none⟩ = some (.slice ap np cp) := HBX.out.2.1 4 _ rfl
      have bw5 : W.cell? ⟨wr.heap.size, 5, none⟩ = some (.slice ak nk ck) := HBX.out.2.1 5 _ rfl
      have bw6 : W.cell? ⟨wr.heap.size, 6, none⟩ = some (.slice ab' nb cb') := HBX.out.2.1 6 _ rfl
      have bw7 : W.cell? ⟨wr.heap.size, 7, none⟩ = some (.slice aa na ca) := HBX.out.2.1 7 _ rfl
      go_wp2_with fail
      refine (HFr.out _ Br).mono ?_
      rintro e w3 ⟨⟨v3, rfl, ho3⟩, hb3⟩
      have hFl := bodyL_len x []
      have HE1 := Hd (Ai (lam_free nl x) (Ai (let_free nl x) (bodyL_nil [nl] x)))
      have HNm := Hd (bodyL_nms (e := x))
      generalize hgF : bodyL [] x = F at *
      obtain ⟨a3, c3, rfl, -⟩ := own_shape ho3
      have H3 := Hd (Ai (own_row ho3 Br) hb3)
      have hmF := (own_row ho3 Br).cap
      unfold maxLen at hmF
      clear ho3 hb3 hgF HFr
      have HN3 := Hd (new_rows (e1 := 9) (e2 := 34) (s1 := 1) (s2 := 8) w3 #[.string (tx nl)] #[.int .i64 k, .string (tx nm), .bool f, .int .u64 u, .slice ap np cp, .slice ak nk ck, .slice ab' nb cb', .slice aa na ca] 1 1 (by decide) (by decide) rfl rfl)
      have hA3 := (Below.refl w3.heap.size w3).alloc Nr (.cells #[.string (tx nl)] 9)
      have bx0 : w3.cell? ⟨wr.heap.size, 0, none⟩ = some (.int .i64 k) := later' H3.out.2 bw0
      have bx1 : w3.cell? ⟨wr.heap.size, 1, none⟩ = some (.string (tx nm)) := later' H3.out.2 bw1
      have bx2 : w3.cell? ⟨wr.heap.size, 2, none⟩ = some (.bool f) := later' H3.out.2 bw2
      have bx3 : w3.cell? ⟨wr.heap.size, 3, none⟩ = some (.int .u64 u) := later' H3.out.2 bw3
      have bx4 : w3.cell? ⟨wr.heap.size, 4, none⟩ = some (.slice ap np cp) := later' H3.out.2 bw4
      have bx5 : w3.cell? ⟨wr.heap.size, 5, none⟩ = some (.slice ak nk ck) := later' H3.out.2 bw5
      have bx6 : w3.cell? ⟨wr.heap.size, 6, none⟩ = some (.slice ab' nb cb') := later' H3.out.2 bw6
      have bx7 : w3.cell? ⟨wr.heap.size, 7, none⟩ = some (.slice aa na ca) := later' H3.out.2 bw7
      have by0 : (w3.alloc (.cells #[.string (tx nl)] 9)).cell? ⟨wr.heap.size, 0, none⟩ = some (.int .i64 k) := later' hA3 bx0
      have by1 : (w3.alloc (.cells #[.string (tx nl)] 9)).cell? ⟨wr.heap.size, 1, none⟩ = some (.string (tx nm)) := later' hA3 bx1
      have by2 : (w3.alloc (.cells #[.string (tx nl)] 9)).cell? ⟨wr.heap.size, 2, none⟩ = some (.bool f) := later' hA3 bx2
      have by3 : (w3.alloc (.cells #[.string (tx nl)] 9)).cell? ⟨wr.heap.size, 3, none⟩ = some (.int .u64 u) := later' hA3 bx3
      have by4 : (w3.alloc (.cells #[.string (tx nl)] 9)).cell? ⟨wr.heap.size, 4, none⟩ = some (.slice ap np cp) := later' hA3 bx4
      have by5 : (w3.alloc (.cells #[.string (tx nl)] 9)).cell? ⟨wr.heap.size, 5, none⟩ = some (.slice ak nk ck) := later' hA3 bx5
      have by6 : (w3.alloc (.cells #[.string (tx nl)] 9)).cell? ⟨wr.heap.size, 6, none⟩ = some (.slice ab' nb cb') := later' hA3 bx6
      have by7 : (w3.alloc (.cells #[.string (tx nl)] 9)).cell? ⟨wr.heap.size, 7, none⟩ = some (.slice aa na ca) := later' hA3 bx7
      have HLm := Hd (vfree_said (lamX [nl] x) (lamX_wv HX.out.1 (one_nmv hnl)) (by rw [lamX_wt]; simp only [List.length_cons, List.length_nil]; omega) 8 [] false 0 (some ⟨w3.heap.size, 0, none⟩) 1 1 (some ⟨w3.heap.size + 1, 0, none⟩) 1 1 none 0 0 none 0 0 _ _ (lamX_at HN3.out.1 HN3.out.2.1 (HX.out.2.move (K' := fun _ => True) fun g hk lt => ⟨hk, (onB' H3.out.2 HN3.out.2.2).block g lt⟩)))
      have htn : tx [] = ⟨#[]⟩ := rfl
      rw [htn, show bodyL [] (lamX [nl] x) = wo F [nl] from HE1.out.1] at HLm
      clear hA3
      go_wp2_with fail
      refine HLm.out.mono ?_
      rintro e w4 ⟨⟨v4, rfl, ho4⟩, hb4⟩
      obtain ⟨a4, c4, rfl, -⟩ := own_shape ho4
      have H4 := Hd (Ai (own_row ho4 Br) (onB' (onB' H3.out.2 HN3.out.2.2) hb4))
      have H4F := Hd (H3.out.1.below (onB' HN3.out.2.2 hb4))
      clear ho4 hb4 HLm bx0 by0 bx1 by1 bx2 by2 bx3 by3 bx4 by4 bx5 by5 bx6 by6 bx7 by7 bw0 bw1 bw2 bw3 bw4 bw5 bw6 bw7
      have HN4 := Hd (new_rows (e1 := 36) (e2 := 34) (s1 := 10) (s2 := 8) w4 #[.string (tx nl), .slice none 0 0, .int .i64 k, .string (tx nm), .bool f, .int .u64 u, .slice ap np cp, .slice ak nk ck, .slice ab' nb cb', .slice aa na ca] #[.int .i64 1, .string (tx nl), .bool false, .int .u64 0, .slice none 0 0, .slice none 0 0, .slice none 0 0, .slice none 0 0] 1 1 (by decide) (by decide) rfl rfl)
      have bz0 : w4.cell? ⟨wr.heap.size, 0, none⟩ = some (.int .i64 k) := later' H4.out.2 (HBX.out.2.1 0 _ rfl)
      have bz1 : w4.cell? ⟨wr.heap.size, 1, none⟩ = some (.string (tx nm)) := later' H4.out.2 (HBX.out.2.1 1 _ rfl)
      have bz2 : w4.cell? ⟨wr.heap.size, 2, none⟩ = some (.bool f) := later' H4.out.2 (HBX.out.2.1 2 _ rfl)
      have bz3 : w4.cell? ⟨wr.heap.size, 3, none⟩ = some (.int .u64 u) := later' H4.out.2 (HBX.out.2.1 3 _ rfl)
      have bz4 : w4.cell? ⟨wr.heap.size, 4, none⟩ = some (.slice ap np cp) := later' H4.out.2 (HBX.out.2.1 4 _ rfl)
      have bz5 : w4.cell? ⟨wr.heap.size, 5, none⟩ = some (.slice ak nk ck) := later' H4.out.2 (HBX.out.2.1 5 _ rfl)
      have bz6 : w4.cell? ⟨wr.heap.size, 6, none⟩ = some (.slice ab' nb cb') := later' H4.out.2 (HBX.out.2.1 6 _ rfl)
      have bz7 : w4.cell? ⟨wr.heap.size, 7, none⟩ = some (.slice aa na ca) := later' H4.out.2 (HBX.out.2.1 7 _ rfl)
      have HLt := Hd (vfree_said (letX nl x) (letX_wv HX.out.1 hnl) (Nt (letX_wt x nl) (by omega)) 6 [] false 0 none 0 0 (some ⟨w4.heap.size + 1, 0, none⟩) 1 1 (some ⟨w4.heap.size, 0, none⟩) 1 1 none 0 0 _ _ (letX_at HN4.out.2.1 HN4.out.1 (HX.out.2.move (K' := fun _ => True) fun g hk lt => ⟨hk, (onB' H4.out.2 HN4.out.2.2).block g lt⟩)))
      rw [htn, show bodyL [] (letX nl x) = wo F [nl] from HE1.out.2.1] at HLt
      go_wp2_with fail
      refine HLt.out.mono ?_
      rintro e w5 ⟨⟨v5, rfl, ho5⟩, hb5⟩
      obtain ⟨a5, c5, rfl, -⟩ := own_shape ho5
      have H5 := Hd (Ai (own_row ho5 Br) (Ai (H4.out.1.below (onB' HN4.out.2.2 hb5)) (Ai (H4F.out.below (onB' HN4.out.2.2 hb5)) (onB' (onB' H4.out.2 HN4.out.2.2) hb5))))
      clear ho5 hb5 HLt bz0 bz1 bz2 bz3 bz4 bz5 bz6 bz7 H4F H4 HN4 HN3 H3
      obtain ⟨i0, hi0, hz0, hzs, hzb⟩ := info_parts Try.info_text
      go_wp2_with fail
      generalize wr = wA at *
      go_loopw [11, 12] (fun s11 s12 wr => ∃ (i : Nat) (vv : Value), i ≤ F.length ∧ vv = s11 ∧ s12 = .int .i64 i ∧ wr.ownsRow w5.heap.size 9 1 vv (wo (F.take i) [nl]).length (namesV (wo (F.take i) [nl])) ∧ Below w5.heap.size w5 wr) (fun _ s12 _ => F.length - (RowKit.intOf s12).toNat)
      case atStart => exact ⟨0, _, Nat.zero_le _, rfl, rfl, by rw [List.take_zero]; exact World.ownsRow_nil _ _ _ _, Below.refl _ _⟩
      case round =>
      obtain ⟨i, vv, hi, rfl, rfl, hown, hbq⟩ := hrel
      obtain ⟨av, cc, rfl, hlow⟩ := own_shape hown
      have hln := wo_len (F.take i) [nl]
      rw [List.length_take] at hln
      have HQ := Hd (Ai hown (Ai hbq hlow))
      have hzq := hbq.size
      clear hown hbq hlow
      by_cases gi : i < F.length
      · have gi' : (i : Int) < (F.length : Int) := by omega
        obtain ⟨g2, o2, ea2, kk1, mm1, -, ht2⟩ := H5.out.2.2.1.at (by omega)
        subst ea2
        have q0 := later' HQ.out.2.1 (ht2 i _ (namesV_get gi))
        have HT := Hd (show wo (F.take (i + 1)) [nl] = if F[i] ∈ [nl] then wo (F.take i) [nl] else wo (F.take i) [nl] ++ [F[i]] by rw [← wo_one, List.take_succ_eq_append_getElem gi])
        clear ht2
        generalize F[i] = tk at *
        have ei : IntKind.i64.wrap ((i : Int) + 1) = (i : Int) + 1 := by rw [IntKind.wrap_i64]; omega
        have c0' : (0 : Int) ≤ (i : Int) := by omega
        by_cases ge : tk = nl
        · subst ge
          have he : ((tx tk).toList == (tx tk).toList) = true := by simp
          go_wp2_with fail
          refine ⟨⟨i + 1, _, by omega, rfl, by go_num, ?_, HQ.out.2.1⟩, by simp [RowKit.intOf]; omega⟩
          rw [HT.out, if_pos (List.mem_singleton.2 rfl)]
          exact HQ.out.1
        · have he := tx_ne ge
          have HG := Hd (show tk ∉ [nl] from fun h => ge (List.mem_singleton.1 h))
          clear ge
          have one1 : ∀ u ∈ [Value.string (tx tk)], u.oneCell' = true := by intro u hu; simp at hu; rw [hu]; rfl
          have m9 : (wo (F.take i) [nl]).length + 1 ≤ maxLen := by unfold maxLen; omega
          have m8 : ((wo (F.take i) [nl]).length + 1) * 16 ≤ 140737488355328 := by omega
          have H6 := Hd ((Below.refl wr.heap.size wr).alloc Nr (.cells #[.string (tx tk)] 9))
          have hz6 : w5.heap.size ≤ (wr.alloc (.cells #[.string (tx tk)] 9)).heap.size := Nt hzq H6.out.size
          have HO6 := Hd (own_below HQ.out.1 H6.out)
          generalize hdd : (wo (F.take i) [nl]).length = N at *
          have HN := Hd hdd
          clear hdd
          go_wp2_with (at_builtin; refine wpList_append_lies _ rfl _ _ 22 rfl w5.heap.size 9 i0 (.string ⟨#[]⟩) 1 16 Try.underlying22 hi0 hz0 hzs hzb rfl (by decide) (.slice av N cc) N (namesV (wo (F.take i) [nl])) rfl HO6.out ⟨wr.heap.size, 0, none⟩ 1 1 [.string (tx tk)] rfl rfl (World.news_of_block (heap_alloc_new _ _)) one1 (by decide) m9 m8 hz6 _ rfl ?_; intro g9 cap9 w9 y1 y2 y3 y4)
          refine ⟨⟨i + 1, _, by omega, rfl, by go_num, ?_, ?_⟩, by simp [RowKit.intOf]; omega⟩
          · rw [HT.out, if_neg HG.out, List.length_append, HN.out]
            simpa [namesV] using y1
          · have hx := onB' HQ.out.2.1 H6.out
            exact ⟨y2.os.trans hx.os, y2.tape.trans hx.tape, y2.output.trans hx.output, Nt hx.size y2.size, fun k hk => (y2.block k (by have := hx.size; omega) (fun e => by have := HQ.out.2.2 k e.symm; omega)).trans (hx.block k hk)⟩
      obtain rfl : i = F.length := by omega
      rw [List.take_length] at HQ hln ⊢
      have HT1 := Hd (texts_any (wo F [nl]) (wo F [nl]) a4 c4 av cc (fun _ => True) (fun _ => True) wr (H5.out.2.1.below HQ.out.2.1) (own_row HQ.out.1 Br))
      rw [decide_eq_true rfl] at HT1
      go_wp2_with fail
      refine HT1.out.mono ?_
      rintro e w6 ⟨rfl, hb6⟩
      have HT2 := Hd (texts_any (wo F [nl]) (wo F [nl]) a5 c5 av cc (fun _ => True) (fun _ => True) w6 (H5.out.1.below (onB' HQ.out.2.1 hb6)) (own_row HQ.out.1 hb6))
      rw [decide_eq_true rfl] at HT2
      have HB6 := Hd (Ai (own_below HQ.out.1 hb6) (onB' HQ.out.2.1 hb6))
      clear hb6 HT1 HQ
      go_wp2_with fail
      refine HT2.out.mono ?_
      rintro e w7 ⟨rfl, hb7⟩
      have HB7 := Hd (Ai (own_below HB6.out.1 hb7) (onB' H5.out.2.2.2 (onB' HB6.out.2 hb7)))
      have hA7 := (Below.refl w7.heap.size w7).alloc Nr (.cells #[.string (tx nl)] 9)
      have ba0 : w7.cell? ⟨wA.heap.size, 0, none⟩ = some (.int .i64 k) := later' HB7.out.2 (HBX.out.2.1 0 _ rfl)
      have ba1 : w7.cell? ⟨wA.heap.size, 1, none⟩ = some (.string (tx nm)) := later' HB7.out.2 (HBX.out.2.1 1 _ rfl)
      have ba2 : w7.cell? ⟨wA.heap.size, 2, none⟩ = some (.bool f) := later' HB7.out.2 (HBX.out.2.1 2 _ rfl)
      have ba3 : w7.cell? ⟨wA.heap.size, 3, none⟩ = some (.int .u64 u) := later' HB7.out.2 (HBX.out.2.1 3 _ rfl)
      have ba4 : w7.cell? ⟨wA.heap.size, 4, none⟩ = some (.slice ap np cp) := later' HB7.out.2 (HBX.out.2.1 4 _ rfl)
      have ba5 : w7.cell? ⟨wA.heap.size, 5, none⟩ = some (.slice ak nk ck) := later' HB7.out.2 (HBX.out.2.1 5 _ rfl)
      have ba6 : w7.cell? ⟨wA.heap.size, 6, none⟩ = some (.slice ab' nb cb') := later' HB7.out.2 (HBX.out.2.1 6 _ rfl)
      have ba7 : w7.cell? ⟨wA.heap.size, 7, none⟩ = some (.slice aa na ca) := later' HB7.out.2 (HBX.out.2.1 7 _ rfl)
      have bb0 : (w7.alloc (.cells #[.string (tx nl)] 9)).cell? ⟨wA.heap.size, 0, none⟩ = some (.int .i64 k) := later' hA7 ba0
      have bb1 : (w7.alloc (.cells #[.string (tx nl)] 9)).cell? ⟨wA.heap.size, 1, none⟩ = some (.string (tx nm)) := later' hA7 ba1
      have bb2 : (w7.alloc (.cells #[.string (tx nl)] 9)).cell? ⟨wA.heap.size, 2, none⟩ = some (.bool f) := later' hA7 ba2
      have bb3 : (w7.alloc (.cells #[.string (tx nl)] 9)).cell? ⟨wA.heap.size, 3, none⟩ = some (.int .u64 u) := later' hA7 ba3
      have bb4 : (w7.alloc (.cells #[.string (tx nl)] 9)).cell? ⟨wA.heap.size, 4, none⟩ = some (.slice ap np cp) := later' hA7 ba4
      have bb5 : (w7.alloc (.cells #[.string (tx nl)] 9)).cell? ⟨wA.heap.size, 5, none⟩ = some (.slice ak nk ck) := later' hA7 ba5
      have bb6 : (w7.alloc (.cells #[.string (tx nl)] 9)).cell? ⟨wA.heap.size, 6, none⟩ = some (.slice ab' nb cb') := later' hA7 ba6
      have bb7 : (w7.alloc (.cells #[.string (tx nl)] 9)).cell? ⟨wA.heap.size, 7, none⟩ = some (.slice aa na ca) := later' hA7 ba7
      have HBd := Hd (vbody_said [nl] x (fun y hy => by rw [List.mem_singleton.1 hy]; exact hnl) HX.out.1 (by simp only [List.length_cons, List.length_nil]; omega) (some ⟨w7.heap.size, 0, none⟩) 1 k nm f u ap np cp ak nk ck ab' nb cb' aa na ca (fun _ => True) (fun _ => True) _ (new_row (e := 9) (size := 1) w7 #[.string (tx nl)] 1 (by decide) rfl) (HX.out.2.move fun g hk lt => ⟨hk, (onB' HB7.out.2 hA7).block g lt⟩))
      rw [← HE1.out.2.2] at HBd
      have HB8 := Hd (Ai (own_below HB7.out.1 hA7) (onB' HB7.out.2 hA7))
      clear hb7 hA7 HT2 HB6
      go_wp2_with fail
      refine HBd.out.mono ?_
      rintro e w8 ⟨⟨v8, rfl, ho8⟩, hb8⟩
      obtain ⟨a8, c8, rfl, -⟩ := own_shape ho8
      have HT3 := Hd (texts_any (wo F [nl]) (wo F [nl]) a8 c8 av cc (fun _ => True) (fun _ => True) w8 (own_row ho8 Br) (own_row HB8.out.1 hb8))
      rw [decide_eq_true rfl] at HT3
      have HB9 := Hd (onB' HB8.out.2 hb8)
      clear ho8 hb8 HBd ba0 bb0 ba1 bb1 ba2 bb2 ba3 bb3 ba4 bb4 ba5 bb5 ba6 bb6 ba7 bb7
      go_wp2_with fail
      refine HT3.out.mono ?_
      rintro e w9 ⟨rfl, hb9⟩
      have HBe := Hd (onB' HW.out (onB' HB9.out hb9))
      clear hb9 HT3
      go_wp2_with fail
      exact ⟨⟨j + 1, by omega, by go_num, HBe.out⟩, by simp [RowKit.intOf]; omega⟩
    · obtain rfl : j = L.length := by omega
      go_wp2_with fail
      go_ret
      exact ⟨rfl, onB' HV.out.2.2.1 HR.out⟩
end Go.Proofs.Ytdjcdecbmeickaa
