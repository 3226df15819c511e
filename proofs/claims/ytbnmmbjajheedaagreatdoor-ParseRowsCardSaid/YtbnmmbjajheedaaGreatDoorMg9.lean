import Derived.Test.YtbnmmbjajheedaaGreatDoorMg8
/- Binds, alternatives, one or more. -/
namespace Go.Proofs.YtbnmmbjajheedaaGreatDoor
open Go.RowKit Go.Lib


/-- What is said of a list of items. -/
def BndsV (lo : Nat) (xs : List Bnd) (e : Ending) (w : World) : Prop := ∃ v cs, e = .returned v ∧ w.ownsRow lo 51 10 v xs.length cs ∧ BndsAt w (fun g => lo ≤ g) xs cs
def AltsV (lo : Nat) (xs : List Alt) (e : Ending) (w : World) : Prop := ∃ v cs, e = .returned v ∧ w.ownsRow lo 87 13 v xs.length cs ∧ AltsAt w (fun g => lo ≤ g) xs cs
theorem Tryz.info_bind : (Tryz.prog.info? 51).map (fun i => (i.zero, i.size, i.bytes)) = some (some (.agg #[.string ⟨#[]⟩, .slice none 0 0, .int .i64 0, .string ⟨#[]⟩, .bool false, .int .u64 0, .slice none 0 0, .slice none 0 0, .slice none 0 0, .slice none 0 0]), 10, 176) := by kernel_rfl
theorem Tryz.info_alt : (Tryz.prog.info? 87).map (fun i => (i.zero, i.size, i.bytes)) = some (some (.agg #[.int .i64 0, .string ⟨#[]⟩, .bool false, .int .u64 0, .slice none 0 0, .int .i64 0, .string ⟨#[]⟩, .bool false, .int .u64 0, .slice none 0 0, .slice none 0 0, .slice none 0 0, .slice none 0 0]), 13, 200) := by kernel_rfl
theorem BndsAt.snoc {W : World} {K : Nat → Prop} : ∀ {bs : List Bnd} {xs : List Value} {x : Bnd} {vp : Value} {cs : List Value}, BndsAt W K bs xs → RowAt W K 9 1 vp x.2.1.length (namesV x.2.1) → ExAt W K x.2.2 cs → BndsAt W K (bs ++ [x]) (xs ++ (.string (tx x.1) :: vp :: cs))
  | [], _, (n, ps, e), vp, cs, .nil, hp, h => by simpa using BndsAt.cons n ps e [] vp cs [] hp h .nil
  | _ :: bs, _, x, vp, cs, .cons n ps e _ v0 c0 x0 hp0 h0 t0, hp, h => by simpa [List.append_assoc] using BndsAt.cons n ps e _ v0 c0 _ hp0 h0 (t0.snoc hp h)
theorem AltsAt.snoc {W : World} {K : Nat → Prop} : ∀ {bs : List Alt} {xs : List Value} {x : Alt} {vp : Value} {cs : List Value}, AltsAt W K bs xs → RowAt W K 9 1 vp x.2.2.2.2.1.length (namesV x.2.2.2.2.1) → ExAt W K x.2.2.2.2.2 cs → AltsAt W K (bs ++ [x]) (xs ++ (.int .i64 x.1 :: .string (tx x.2.1) :: .bool x.2.2.1 :: .int .u64 x.2.2.2.1 :: vp :: cs))
  | [], _, (k, n, f, u, ps, e), vp, cs, .nil, hp, h => by simpa using AltsAt.cons k n f u ps e [] vp cs [] hp h .nil
  | _ :: bs, _, x, vp, cs, .cons k n f u ps e _ v0 c0 x0 hp0 h0 t0, hp, h => by simpa [List.append_assoc] using AltsAt.cons k n f u ps e _ v0 c0 _ hp0 h0 (t0.snoc hp h)
set_option maxHeartbeats 8000000 in
set_option maxRecDepth 100000 in
theorem binds_any (b me ma : Nat) (B : Bx) (n d : Nat) (hEx : ExprC b me ma B n d) (last : Int) (rest : List Tok) (hn : rest.length ≤ n) (hL : rest.length ≤ 4096) (w : World) (hC : Ctx w b me ma B) (hR : Rdr w b me ma last rest d) : Calls Tryz.prog 85 #[.pointer (some ⟨b, 0, none⟩)] w (OutSaid b me ma d (BndsV w.heap.size) (someO (bindO (exprO n d)) last rest) w) := by
  have hlt : b < w.heap.size := World.block_lt_of_cell? _ _ hR.c1
  have HE := Lib.hid (And.intro hC hR)
  obtain ⟨i0, hi0, hz0, hzs, hzb⟩ := info_parts Tryz.info_bind
  have HP := Lib.hid (show someO (bindO (exprO n d)) last rest = (bindO (exprO n d) last rest).bind fun a l r => moreO (bindO (exprO n d)) (r.length + 1) [a] l r from rfl)
  clear hC hR
  go_enter Tryz.func85, Tryz.ntmps85
  have HC := Lib.hid (bind_any b me ma B n d hEx last rest hn hL w HE.out.1 HE.out.2)
  go_wp2_with fail
  refine HC.out.mono ?_
  rintro e w1 h
  cases ho : bindO (exprO n d) last rest with
  | bad er ln =>
    rw [ho] at h
    obtain ⟨hbr, hg⟩ := h
    have hp := HP.out
    rw [ho, bind_bad] at hp
    have HB := Lib.hid (And.intro hp hg)
    unfold Broken at hbr
    subst hbr
    clear hg ho hp HC
    go_wp2_with fail
    refine ⟨rfl, ?_⟩
    rw [HB.out.1]
    exact ⟨rfl, HB.out.2⟩
  | ok a l r =>
    rw [ho] at h
    have hlr : r.length ≤ rest.length := by have h := bind_shrinks (expr_shrinks n d) last rest; rw [ho] at h; exact h
    have hp := HP.out
    rw [ho, bind_ok] at hp
    obtain ⟨⟨vp, k, nm, f, u, vq, vk, vb, va, rfl, hrow, hat⟩, hR, hg⟩ := h
    obtain ⟨ap, np, cp, rfl⟩ := hrow.slice
    obtain ⟨⟨ap1, np1, cp1, rfl⟩, ⟨ak, nk, ck, rfl⟩, ⟨ab, nb, cb, rfl⟩, ⟨aa, na, ca, rfl⟩⟩ := hat.slices
    have hy := (Below.refl w1.heap.size w1).alloc (Nat.le_refl _) (.cells #[.string (tx a.1), .slice ap np cp, .int .i64 k, .string nm, .bool f, .int .u64 u, .slice ap1 np1 cp1, .slice ak nk ck, .slice ab nb cb, .slice aa na ca] 51)
    have hown := own_built (W := (w1.alloc (.cells #[.string (tx a.1), .slice ap np cp, .int .i64 k, .string nm, .bool f, .int .u64 u, .slice ap1 np1 cp1, .slice ak nk ck, .slice ab nb cb, .slice aa na ca] 51))) (g := w1.heap.size) (base := w1.heap.size) (size := 10) (n := 1) (cs := #[.string (tx a.1), .slice ap np cp, .int .i64 k, .string nm, .bool f, .int .u64 u, .slice ap1 np1 cp1, .slice ak nk ck, .slice ab nb cb, .slice aa na ca]) (heap_alloc_new _ _) (Nat.le_refl _) rfl (by decide)
    have hbs : BndsAt (w1.alloc (.cells #[.string (tx a.1), .slice ap np cp, .int .i64 k, .string nm, .bool f, .int .u64 u, .slice ap1 np1 cp1, .slice ak nk ck, .slice ab nb cb, .slice aa na ca] 51)) (fun g => w.heap.size ≤ g ∧ g ≠ w1.heap.size) [a] [.string (tx a.1), .slice ap np cp, .int .i64 k, .string nm, .bool f, .int .u64 u, .slice ap1 np1 cp1, .slice ak nk ck, .slice ab nb cb, .slice aa na ca] := BndsAt.cons a.1 a.2.1 a.2.2 [] (.slice ap np cp) _ [] (hrow.move (fun g hg lt => ⟨⟨hg, by omega⟩, hy.block g lt⟩)) (hat.move (fun g hg lt => ⟨⟨hg, by omega⟩, hy.block g lt⟩)) .nil
    have hsz1 : w.heap.size ≤ w1.heap.size := hg.size
    have H1 := Lib.hid (And.intro (hR.later hy) (And.intro (grown_trans hg (grown_of (b := b) hy)) (And.intro (own_base hown hsz1) hbs)))
    have HP2 := Lib.hid hp
    clear hR hg hy hown hbs hrow hat hp ho HP HC
    have HP := HP2
    clear HP2
    go_upto_region 2 with fail
    generalize hWA : (w1.alloc (.cells #[.string (tx a.1), .slice ap np cp, .int .i64 k, .string nm, .bool f, .int .u64 u, .slice ap1 np1 cp1, .slice ak nk ck, .slice ab nb cb, .slice aa na ca] 51)) = W1 at *
    clear hWA
    go_loopw [3] (fun s3 wr => ∃ (l' : Int) (r' : List Tok) (acc : List Bnd) (vv : Value) (cs : List Value) (fu : Nat), vv = s3 ∧ Rdr wr b me ma l' r' d ∧ w.grownBy wr (some b) ∧ r'.length < fu ∧ moreO (bindO (exprO n d)) fu acc l' r' = someO (bindO (exprO n d)) last rest ∧ acc.length + r'.length ≤ rest.length + 1 ∧ 1 ≤ acc.length ∧ wr.ownsRow w.heap.size 51 10 vv acc.length cs ∧ BndsAt wr (fun g => w.heap.size ≤ g ∧ some g ≠ vv.ownBlock) acc cs) (fun s3 _ => rest.length + 1 - lenOf s3)
    case atStart => exact ⟨l, r, [a], _, _, _, rfl, H1.out.1, H1.out.2.1, Nat.lt_succ_self _, HP.out.symm, by simp; omega, by simp, H1.out.2.2.1, H1.out.2.2.2.move (fun g hg lt => ⟨⟨hg.1, fun e => hg.2 (Option.some.inj e)⟩, rfl⟩)⟩
    case round =>
      obtain ⟨l', r', acc, vv, cs, fu, rfl, hR, hg, hfu, hN, hn', h1, hown, hex⟩ := hrel
      obtain ⟨ax, cx, rfl, hlow⟩ := own_shape hown
      have HS := Lib.hid (skip_any b me ma l' r' d sSemi (by decide) wr hR)
      have c0 := (HE.out.1.later hg).env.semi.1.1
      have c1 := (HE.out.1.later hg).env.semi.1.2
      have HQ := Lib.hid (And.intro hR (And.intro hg (And.intro hN (And.intro hown (And.intro hex hlow)))))
      clear hR hg hN hown hex hlow
      obtain ⟨fu', rfl⟩ : ∃ q, fu = q + 1 := ⟨fu - 1, by omega⟩
      go_wp2_with fail
      refine HS.out.mono ?_
      rintro e w2 (⟨gs, rfl, y, q, rfl, hR, hg⟩ | ⟨gs, rfl, hb⟩)
      · have hN : moreO (bindO (exprO n d)) (fu' + 1) acc l' (y :: q) = (bindO (exprO n d) y.2 q).bind fun a l2 r2 => moreO (bindO (exprO n d)) fu' (acc ++ [a]) l2 r2 := by
          conv => lhs; unfold moreO
          exact if_pos gs
        have hN2 := HQ.out.2.2.1
        rw [hN] at hN2
        simp only [List.length_cons] at hfu hn'
        have HO2 := Lib.hid (own_kept HQ.out.2.2.2.1 hg (fun e => by have := HQ.out.2.2.2.2.2 b e; omega))
        have hltO : ∀ g, (Value.slice ax acc.length cx).ownBlock = some g → g < wr.heap.size := fun g hg => (HQ.out.2.2.2.1.lt g hg).2
        have HEx := Lib.hid (And.intro hltO (HQ.out.2.2.2.2.1.move (K' := fun g => w.heap.size ≤ g ∧ some g ≠ (Value.slice ax acc.length cx).ownBlock) (W' := w2) (fun g hk lt => ⟨hk, hg.block g lt (by have := hk.1; simp; omega)⟩)))
        have hsz2 : wr.heap.size ≤ w2.heap.size := hg.size
        have H2 := Lib.hid (And.intro hR (And.intro (grown_trans HQ.out.2.1 hg) hN2))
        clear hR hg hN hN2 gs HS c0 c1 hltO
        have HC := Lib.hid (bind_any b me ma B n d hEx y.2 q (by omega) (by omega) w2 (HE.out.1.later H2.out.2.1) H2.out.1)
        go_wp2_with fail
        refine HC.out.mono ?_
        rintro e w3 h
        cases ho : bindO (exprO n d) y.2 q with
        | bad er ln =>
          rw [ho] at h
          obtain ⟨hbr, hg⟩ := h
          have hp := H2.out.2.2
          rw [ho, bind_bad] at hp
          have HB := Lib.hid (And.intro hp.symm (grown_trans H2.out.2.1 hg))
          unfold Broken at hbr
          subst hbr
          clear hg ho hp HC
          go_wp2_with fail
          refine ⟨rfl, ?_⟩
          rw [HB.out.1]
          exact ⟨rfl, HB.out.2⟩
        | ok a l2 r2 =>
          rw [ho] at h
          have hl2 : r2.length ≤ q.length := by have h := bind_shrinks (expr_shrinks n d) y.2 q; rw [ho] at h; exact h
          have hp := H2.out.2.2
          rw [ho, bind_ok] at hp
          obtain ⟨⟨vp, k, nm, f, u, vq, vk, vb, va, rfl, hrow, hat⟩, hR, hg⟩ := h
          obtain ⟨ap, np, cp, rfl⟩ := hrow.slice
          obtain ⟨⟨ap1, np1, cp1, rfl⟩, ⟨ak, nk, ck, rfl⟩, ⟨ab, nb, cb, rfl⟩, ⟨aa, na, ca, rfl⟩⟩ := hat.slices
          have HO3 := Lib.hid (own_kept HO2.out hg (fun e => by have := HQ.out.2.2.2.2.2 b e; omega))
          have hsz3 : w2.heap.size ≤ w3.heap.size := hg.size
          have hsz0 : w.heap.size ≤ w2.heap.size := H2.out.2.1.size
          have H3 := Lib.hid (And.intro hR (And.intro (grown_trans H2.out.2.1 hg) (And.intro hg (And.intro hp (And.intro hrow hat)))))
          have oneC : ∀ z ∈ ([.string (tx a.1), .slice ap np cp, .int .i64 k, .string nm, .bool f, .int .u64 u, .slice ap1 np1 cp1, .slice ak nk ck, .slice ab nb cb, .slice aa na ca] : List Value), z.oneCell' = true := by intro z hz; simp at hz; rcases hz with rfl | rfl | rfl | rfl | rfl | rfl | rfl | rfl | rfl | rfl <;> rfl
          have m9 : acc.length + 1 ≤ maxLen := by unfold maxLen; omega
          have m8 : (acc.length + 1) * 176 ≤ 140737488355328 := by omega
          clear hR hg hp hrow hat HC ho HO2
          go_wp2_with (at_builtin; refine wpList_append_lies _ rfl _ _ 24 rfl w.heap.size 51 i0 (.agg #[.string ⟨#[]⟩, .slice none 0 0, .int .i64 0, .string ⟨#[]⟩, .bool false, .int .u64 0, .slice none 0 0, .slice none 0 0, .slice none 0 0, .slice none 0 0]) 10 176 Tryz.underlying24 hi0 hz0 hzs hzb rfl (by decide) (.slice ax acc.length cx) acc.length cs rfl (HO3.out.alloc _) ⟨w3.heap.size, 0, none⟩ 1 1 [.string (tx a.1), .slice ap np cp, .int .i64 k, .string nm, .bool f, .int .u64 u, .slice ap1 np1 cp1, .slice ak nk ck, .slice ab nb cb, .slice aa na ca] rfl rfl (World.news_of_block (heap_alloc_new _ _)) oneC (by decide) m9 m8 (by simp; omega) _ rfl ?_; intro g9 cap9 w9 o1 o2 o3 o4)
          have hxx := (Below.refl w3.heap.size w3).alloc (Nat.le_refl _) (.cells #[.string (tx a.1), .slice ap np cp, .int .i64 k, .string nm, .bool f, .int .u64 u, .slice ap1 np1 cp1, .slice ak nk ck, .slice ab nb cb, .slice aa na ca] 51)
          have hlow : ∀ g, (Value.slice ax acc.length cx).ownBlock = some g → w.heap.size ≤ g := HQ.out.2.2.2.2.2
          obtain ⟨q9, hq, hg9⟩ := grown_some (b := b) o2 (fun g e => by have := hlow g e; omega)
          have hs5 := hxx.size
          refine ⟨⟨l2, r2, acc ++ [a], _, cs ++ [.string (tx a.1), .slice ap np cp, .int .i64 k, .string nm, .bool f, .int .u64 u, .slice ap1 np1 cp1, .slice ak nk ck, .slice ab nb cb, .slice aa na ca], fu', rfl, (H3.out.1.later hxx).past hg9 hq, grown_past (grown_trans H3.out.2.1 (grown_of hxx)) o2 hlow, by omega, H3.out.2.2.2.1, by simp; omega, by simp, by simpa using o1, ?_⟩, by simp [lenOf]; omega⟩
          have hfar : ∀ g, w2.heap.size ≤ g → g < w3.heap.size → (w.heap.size ≤ g ∧ some g ≠ (Value.slice (some ⟨g9, 0, none⟩) (acc.length + 1) cap9).ownBlock) ∧ w9.heap[g]? = w3.heap[g]? := by
            intro g h1 h2
            have hne9 : some g ≠ (Value.slice ax acc.length cx).ownBlock := fun e => by have := HEx.out.1 g e.symm; omega
            refine ⟨⟨by omega, fun e => ?_⟩, (o2.block g (by omega) hne9).trans (hxx.block g (by omega))⟩
            rcases o3 with h | h
            · exact hne9 (e.trans h.symm)
            · have := Option.some.inj e
              simp at this h
              omega
          refine BndsAt.snoc (HEx.out.2.move (fun g hg lt => ?_)) (H3.out.2.2.2.2.1.move (fun g hg lt => hfar g hg lt)) (H3.out.2.2.2.2.2.move (fun g hg lt => hfar g hg lt))
          refine ⟨⟨hg.1, fun e => ?_⟩, ((o2.block g (by omega) hg.2).trans (hxx.block g (by omega))).trans (H3.out.2.2.1.block g (by omega) (by have := hg.1; simp; omega))⟩
          rcases o3 with h | h
          · exact hg.2 (e.trans h.symm)
          · have := Option.some.inj e
            simp at this h
            omega
      · have hN : moreO (bindO (exprO n d)) (fu' + 1) acc l' r' = .ok acc l' r' := by
          conv => lhs; unfold moreO
          exact if_neg gs
        have hN2 := HQ.out.2.2.1
        rw [hN] at hN2
        have H2 := Lib.hid (And.intro (HQ.out.1.later hb) (And.intro (grown_trans HQ.out.2.1 (grown_of (b := b) hb)) (And.intro hN2 (And.intro (own_below HQ.out.2.2.2.1 hb) hb))))
        clear hN hN2 gs HS c0 c1 hb
        go_wp2_with fail
        refine bodyPost_ret (v := .slice ax acc.length cx) (by simp [results, Tryz.results85, go_sem]) rfl ?_
        rw [← H2.out.2.2.1]
        exact ⟨⟨_, cs, rfl, H2.out.2.2.2.1, HQ.out.2.2.2.2.1.move (fun g hg lt => ⟨hg.1, H2.out.2.2.2.2.block g lt⟩)⟩, H2.out.1, H2.out.2.1⟩

set_option maxHeartbeats 8000000 in
set_option maxRecDepth 100000 in
theorem alts_any (b me ma : Nat) (B : Bx) (n d : Nat) (hEx : ExprC b me ma B n d) (last : Int) (rest : List Tok) (hn : rest.length ≤ n) (hL : rest.length ≤ 4096) (w : World) (hC : Ctx w b me ma B) (hR : Rdr w b me ma last rest d) : Calls Tryz.prog 88 #[.pointer (some ⟨b, 0, none⟩)] w (OutSaid b me ma d (AltsV w.heap.size) (someO (altO (exprO n d)) last rest) w) := by
  have hlt : b < w.heap.size := World.block_lt_of_cell? _ _ hR.c1
  have HE := Lib.hid (And.intro hC hR)
  obtain ⟨i0, hi0, hz0, hzs, hzb⟩ := info_parts Tryz.info_alt
  have HP := Lib.hid (show someO (altO (exprO n d)) last rest = (altO (exprO n d) last rest).bind fun a l r => moreO (altO (exprO n d)) (r.length + 1) [a] l r from rfl)
  clear hC hR
  go_enter Tryz.func88, Tryz.ntmps88
  have HC := Lib.hid (alt_any b me ma B n d hEx last rest hn hL w HE.out.1 HE.out.2)
  go_wp2_with fail
  refine HC.out.mono ?_
  rintro e w1 h
  cases ho : altO (exprO n d) last rest with
  | bad er ln =>
    rw [ho] at h
    obtain ⟨hbr, hg⟩ := h
    have hp := HP.out
    rw [ho, bind_bad] at hp
    have HB := Lib.hid (And.intro hp hg)
    unfold Broken at hbr
    subst hbr
    clear hg ho hp HC
    go_wp2_with fail
    refine ⟨rfl, ?_⟩
    rw [HB.out.1]
    exact ⟨rfl, HB.out.2⟩
  | ok a l r =>
    rw [ho] at h
    have hlr : r.length ≤ rest.length := by have h := alt_shrinks (expr_shrinks n d) last rest; rw [ho] at h; exact h
    have hp := HP.out
    rw [ho, bind_ok] at hp
    obtain ⟨⟨vp, k, nm, f, u, vq, vk, vb, va, rfl, hrow, hat⟩, hR, hg⟩ := h
    obtain ⟨ap, np, cp, rfl⟩ := hrow.slice
    obtain ⟨⟨ap1, np1, cp1, rfl⟩, ⟨ak, nk, ck, rfl⟩, ⟨ab, nb, cb, rfl⟩, ⟨aa, na, ca, rfl⟩⟩ := hat.slices
    have hy := (Below.refl w1.heap.size w1).alloc (Nat.le_refl _) (.cells #[.int .i64 a.1, .string (tx a.2.1), .bool a.2.2.1, .int .u64 a.2.2.2.1, .slice ap np cp, .int .i64 k, .string nm, .bool f, .int .u64 u, .slice ap1 np1 cp1, .slice ak nk ck, .slice ab nb cb, .slice aa na ca] 87)
    have hown := own_built (W := (w1.alloc (.cells #[.int .i64 a.1, .string (tx a.2.1), .bool a.2.2.1, .int .u64 a.2.2.2.1, .slice ap np cp, .int .i64 k, .string nm, .bool f, .int .u64 u, .slice ap1 np1 cp1, .slice ak nk ck, .slice ab nb cb, .slice aa na ca] 87))) (g := w1.heap.size) (base := w1.heap.size) (size := 13) (n := 1) (cs := #[.int .i64 a.1, .string (tx a.2.1), .bool a.2.2.1, .int .u64 a.2.2.2.1, .slice ap np cp, .int .i64 k, .string nm, .bool f, .int .u64 u, .slice ap1 np1 cp1, .slice ak nk ck, .slice ab nb cb, .slice aa na ca]) (heap_alloc_new _ _) (Nat.le_refl _) rfl (by decide)
    have hbs : AltsAt (w1.alloc (.cells #[.int .i64 a.1, .string (tx a.2.1), .bool a.2.2.1, .int .u64 a.2.2.2.1, .slice ap np cp, .int .i64 k, .string nm, .bool f, .int .u64 u, .slice ap1 np1 cp1, .slice ak nk ck, .slice ab nb cb, .slice aa na ca] 87)) (fun g => w.heap.size ≤ g ∧ g ≠ w1.heap.size) [a] [.int .i64 a.1, .string (tx a.2.1), .bool a.2.2.1, .int .u64 a.2.2.2.1, .slice ap np cp, .int .i64 k, .string nm, .bool f, .int .u64 u, .slice ap1 np1 cp1, .slice ak nk ck, .slice ab nb cb, .slice aa na ca] := AltsAt.cons a.1 a.2.1 a.2.2.1 a.2.2.2.1 a.2.2.2.2.1 a.2.2.2.2.2 [] (.slice ap np cp) _ [] (hrow.move (fun g hg lt => ⟨⟨hg, by omega⟩, hy.block g lt⟩)) (hat.move (fun g hg lt => ⟨⟨hg, by omega⟩, hy.block g lt⟩)) .nil
    have hsz1 : w.heap.size ≤ w1.heap.size := hg.size
    have H1 := Lib.hid (And.intro (hR.later hy) (And.intro (grown_trans hg (grown_of (b := b) hy)) (And.intro (own_base hown hsz1) hbs)))
    have HP2 := Lib.hid hp
    clear hR hg hy hown hbs hrow hat hp ho HP HC
    have HP := HP2
    clear HP2
    go_upto_region 2 with fail
    generalize hWA : (w1.alloc (.cells #[.int .i64 a.1, .string (tx a.2.1), .bool a.2.2.1, .int .u64 a.2.2.2.1, .slice ap np cp, .int .i64 k, .string nm, .bool f, .int .u64 u, .slice ap1 np1 cp1, .slice ak nk ck, .slice ab nb cb, .slice aa na ca] 87)) = W1 at *
    clear hWA
    go_loopw [3] (fun s3 wr => ∃ (l' : Int) (r' : List Tok) (acc : List Alt) (vv : Value) (cs : List Value) (fu : Nat), vv = s3 ∧ Rdr wr b me ma l' r' d ∧ w.grownBy wr (some b) ∧ r'.length < fu ∧ moreO (altO (exprO n d)) fu acc l' r' = someO (altO (exprO n d)) last rest ∧ acc.length + r'.length ≤ rest.length + 1 ∧ 1 ≤ acc.length ∧ wr.ownsRow w.heap.size 87 13 vv acc.length cs ∧ AltsAt wr (fun g => w.heap.size ≤ g ∧ some g ≠ vv.ownBlock) acc cs) (fun s3 _ => rest.length + 1 - lenOf s3)
    case atStart => exact ⟨l, r, [a], _, _, _, rfl, H1.out.1, H1.out.2.1, Nat.lt_succ_self _, HP.out.symm, by simp; omega, by simp, H1.out.2.2.1, H1.out.2.2.2.move (fun g hg lt => ⟨⟨hg.1, fun e => hg.2 (Option.some.inj e)⟩, rfl⟩)⟩
    case round =>
      obtain ⟨l', r', acc, vv, cs, fu, rfl, hR, hg, hfu, hN, hn', h1, hown, hex⟩ := hrel
      obtain ⟨ax, cx, rfl, hlow⟩ := own_shape hown
      have HS := Lib.hid (skip_any b me ma l' r' d sSemi (by decide) wr hR)
      have c0 := (HE.out.1.later hg).env.semi.1.1
      have c1 := (HE.out.1.later hg).env.semi.1.2
      have HQ := Lib.hid (And.intro hR (And.intro hg (And.intro hN (And.intro hown (And.intro hex hlow)))))
      clear hR hg hN hown hex hlow
      obtain ⟨fu', rfl⟩ : ∃ q, fu = q + 1 := ⟨fu - 1, by omega⟩
      go_wp2_with fail
      refine HS.out.mono ?_
      rintro e w2 (⟨gs, rfl, y, q, rfl, hR, hg⟩ | ⟨gs, rfl, hb⟩)
      · have hN : moreO (altO (exprO n d)) (fu' + 1) acc l' (y :: q) = (altO (exprO n d) y.2 q).bind fun a l2 r2 => moreO (altO (exprO n d)) fu' (acc ++ [a]) l2 r2 := by
          conv => lhs; unfold moreO
          exact if_pos gs
        have hN2 := HQ.out.2.2.1
        rw [hN] at hN2
        simp only [List.length_cons] at hfu hn'
        have HO2 := Lib.hid (own_kept HQ.out.2.2.2.1 hg (fun e => by have := HQ.out.2.2.2.2.2 b e; omega))
        have hltO : ∀ g, (Value.slice ax acc.length cx).ownBlock = some g → g < wr.heap.size := fun g hg => (HQ.out.2.2.2.1.lt g hg).2
        have HEx := Lib.hid (And.intro hltO (HQ.out.2.2.2.2.1.move (K' := fun g => w.heap.size ≤ g ∧ some g ≠ (Value.slice ax acc.length cx).ownBlock) (W' := w2) (fun g hk lt => ⟨hk, hg.block g lt (by have := hk.1; simp; omega)⟩)))
        have hsz2 : wr.heap.size ≤ w2.heap.size := hg.size
        have H2 := Lib.hid (And.intro hR (And.intro (grown_trans HQ.out.2.1 hg) hN2))
        clear hR hg hN hN2 gs HS c0 c1 hltO
        have HC := Lib.hid (alt_any b me ma B n d hEx y.2 q (by omega) (by omega) w2 (HE.out.1.later H2.out.2.1) H2.out.1)
        go_wp2_with fail
        refine HC.out.mono ?_
        rintro e w3 h
        cases ho : altO (exprO n d) y.2 q with
        | bad er ln =>
          rw [ho] at h
          obtain ⟨hbr, hg⟩ := h
          have hp := H2.out.2.2
          rw [ho, bind_bad] at hp
          have HB := Lib.hid (And.intro hp.symm (grown_trans H2.out.2.1 hg))
          unfold Broken at hbr
          subst hbr
          clear hg ho hp HC
          go_wp2_with fail
          refine ⟨rfl, ?_⟩
          rw [HB.out.1]
          exact ⟨rfl, HB.out.2⟩
        | ok a l2 r2 =>
          rw [ho] at h
          have hl2 : r2.length ≤ q.length := by have h := alt_shrinks (expr_shrinks n d) y.2 q; rw [ho] at h; exact h
          have hp := H2.out.2.2
          rw [ho, bind_ok] at hp
          obtain ⟨⟨vp, k, nm, f, u, vq, vk, vb, va, rfl, hrow, hat⟩, hR, hg⟩ := h
          obtain ⟨ap, np, cp, rfl⟩ := hrow.slice
          obtain ⟨⟨ap1, np1, cp1, rfl⟩, ⟨ak, nk, ck, rfl⟩, ⟨ab, nb, cb, rfl⟩, ⟨aa, na, ca, rfl⟩⟩ := hat.slices
          have HO3 := Lib.hid (own_kept HO2.out hg (fun e => by have := HQ.out.2.2.2.2.2 b e; omega))
          have hsz3 : w2.heap.size ≤ w3.heap.size := hg.size
          have hsz0 : w.heap.size ≤ w2.heap.size := H2.out.2.1.size
          have H3 := Lib.hid (And.intro hR (And.intro (grown_trans H2.out.2.1 hg) (And.intro hg (And.intro hp (And.intro hrow hat)))))
          have oneC : ∀ z ∈ ([.int .i64 a.1, .string (tx a.2.1), .bool a.2.2.1, .int .u64 a.2.2.2.1, .slice ap np cp, .int .i64 k, .string nm, .bool f, .int .u64 u, .slice ap1 np1 cp1, .slice ak nk ck, .slice ab nb cb, .slice aa na ca] : List Value), z.oneCell' = true := by intro z hz; simp at hz; rcases hz with rfl | rfl | rfl | rfl | rfl | rfl | rfl | rfl | rfl | rfl | rfl | rfl | rfl <;> rfl
          have m9 : acc.length + 1 ≤ maxLen := by unfold maxLen; omega
          have m8 : (acc.length + 1) * 200 ≤ 140737488355328 := by omega
          clear hR hg hp hrow hat HC ho HO2
          go_wp2_with (at_builtin; refine wpList_append_lies _ rfl _ _ 47 rfl w.heap.size 87 i0 (.agg #[.int .i64 0, .string ⟨#[]⟩, .bool false, .int .u64 0, .slice none 0 0, .int .i64 0, .string ⟨#[]⟩, .bool false, .int .u64 0, .slice none 0 0, .slice none 0 0, .slice none 0 0, .slice none 0 0]) 13 200 Tryz.underlying47 hi0 hz0 hzs hzb rfl (by decide) (.slice ax acc.length cx) acc.length cs rfl (HO3.out.alloc _) ⟨w3.heap.size, 0, none⟩ 1 1 [.int .i64 a.1, .string (tx a.2.1), .bool a.2.2.1, .int .u64 a.2.2.2.1, .slice ap np cp, .int .i64 k, .string nm, .bool f, .int .u64 u, .slice ap1 np1 cp1, .slice ak nk ck, .slice ab nb cb, .slice aa na ca] rfl rfl (World.news_of_block (heap_alloc_new _ _)) oneC (by decide) m9 m8 (by simp; omega) _ rfl ?_; intro g9 cap9 w9 o1 o2 o3 o4)
          have hxx := (Below.refl w3.heap.size w3).alloc (Nat.le_refl _) (.cells #[.int .i64 a.1, .string (tx a.2.1), .bool a.2.2.1, .int .u64 a.2.2.2.1, .slice ap np cp, .int .i64 k, .string nm, .bool f, .int .u64 u, .slice ap1 np1 cp1, .slice ak nk ck, .slice ab nb cb, .slice aa na ca] 87)
          have hlow : ∀ g, (Value.slice ax acc.length cx).ownBlock = some g → w.heap.size ≤ g := HQ.out.2.2.2.2.2
          obtain ⟨q9, hq, hg9⟩ := grown_some (b := b) o2 (fun g e => by have := hlow g e; omega)
          have hs5 := hxx.size
          refine ⟨⟨l2, r2, acc ++ [a], _, cs ++ [.int .i64 a.1, .string (tx a.2.1), .bool a.2.2.1, .int .u64 a.2.2.2.1, .slice ap np cp, .int .i64 k, .string nm, .bool f, .int .u64 u, .slice ap1 np1 cp1, .slice ak nk ck, .slice ab nb cb, .slice aa na ca], fu', rfl, (H3.out.1.later hxx).past hg9 hq, grown_past (grown_trans H3.out.2.1 (grown_of hxx)) o2 hlow, by omega, H3.out.2.2.2.1, by simp; omega, by simp, by simpa using o1, ?_⟩, by simp [lenOf]; omega⟩
          have hfar : ∀ g, w2.heap.size ≤ g → g < w3.heap.size → (w.heap.size ≤ g ∧ some g ≠ (Value.slice (some ⟨g9, 0, none⟩) (acc.length + 1) cap9).ownBlock) ∧ w9.heap[g]? = w3.heap[g]? := by
            intro g h1 h2
            have hne9 : some g ≠ (Value.slice ax acc.length cx).ownBlock := fun e => by have := HEx.out.1 g e.symm; omega
            refine ⟨⟨by omega, fun e => ?_⟩, (o2.block g (by omega) hne9).trans (hxx.block g (by omega))⟩
            rcases o3 with h | h
            · exact hne9 (e.trans h.symm)
            · have := Option.some.inj e
              simp at this h
              omega
          refine AltsAt.snoc (HEx.out.2.move (fun g hg lt => ?_)) (H3.out.2.2.2.2.1.move (fun g hg lt => hfar g hg lt)) (H3.out.2.2.2.2.2.move (fun g hg lt => hfar g hg lt))
          refine ⟨⟨hg.1, fun e => ?_⟩, ((o2.block g (by omega) hg.2).trans (hxx.block g (by omega))).trans (H3.out.2.2.1.block g (by omega) (by have := hg.1; simp; omega))⟩
          rcases o3 with h | h
          · exact hg.2 (e.trans h.symm)
          · have := Option.some.inj e
            simp at this h
            omega
      · have hN : moreO (altO (exprO n d)) (fu' + 1) acc l' r' = .ok acc l' r' := by
          conv => lhs; unfold moreO
          exact if_neg gs
        have hN2 := HQ.out.2.2.1
        rw [hN] at hN2
        have H2 := Lib.hid (And.intro (HQ.out.1.later hb) (And.intro (grown_trans HQ.out.2.1 (grown_of (b := b) hb)) (And.intro hN2 (And.intro (own_below HQ.out.2.2.2.1 hb) hb))))
        clear hN hN2 gs HS c0 c1 hb
        go_wp2_with fail
        refine bodyPost_ret (v := .slice ax acc.length cx) (by simp [results, Tryz.results88, go_sem]) rfl ?_
        rw [← H2.out.2.2.1]
        exact ⟨⟨_, cs, rfl, H2.out.2.2.2.1, HQ.out.2.2.2.2.1.move (fun g hg lt => ⟨hg.1, H2.out.2.2.2.2.block g lt⟩)⟩, H2.out.1, H2.out.2.1⟩


end Go.Proofs.YtbnmmbjajheedaaGreatDoor

/- A let. -/
namespace Go.Proofs.YtbnmmbjajheedaaGreatDoor
open Go.RowKit Go.Lib

set_option maxHeartbeats 8000000 in
set_option maxRecDepth 100000 in
theorem let_any (b me ma : Nat) (B : Bx) (n d : Nat) (hEx : ExprC b me ma B n d) (last : Int) (rest : List Tok) (hn : rest.length ≤ n) (hL : rest.length ≤ 4096) (w : World) (hC : Ctx w b me ma B) (hR : Rdr w b me ma last rest d) : Calls Tryz.prog 52 #[.pointer (some ⟨b, 0, none⟩)] w (OutSaid b me ma d (ExV w.heap.size) (letO (exprO n d) last rest) w) := by
  have hlt : b < w.heap.size := World.block_lt_of_cell? _ _ hR.c1
  have hx := (Below.refl w.heap.size w).alloc (Nat.le_refl _) (.cells #[.int .i64 0, .string ⟨#[]⟩, .bool false, .int .u64 0, .slice none 0 0, .slice none 0 0, .slice none 0 0, .slice none 0 0] 49)
  have hBp := BoxW.alloc w #[.int .i64 0, .string ⟨#[]⟩, .bool false, .int .u64 0, .slice none 0 0, .slice none 0 0, .slice none 0 0, .slice none 0 0] 49
  have HX := Lib.hid (And.intro hx (And.intro (hR.later hx) (And.intro hBp (hC.later (grown_of hx)))))
  have hsz0 : w.heap.size + 1 ≤ (w.alloc (.cells #[.int .i64 0, .string ⟨#[]⟩, .bool false, .int .u64 0, .slice none 0 0, .slice none 0 0, .slice none 0 0, .slice none 0 0] 49)).heap.size := by simp
  clear hx hR hBp
  go_enter Tryz.func52, Tryz.ntmps52
  go_upto_region 1 with fail
  generalize (w.alloc (.cells #[.int .i64 0, .string ⟨#[]⟩, .bool false, .int .u64 0, .slice none 0 0, .slice none 0 0, .slice none 0 0, .slice none 0 0] 49)) = W at *
  have HP := Lib.hid (show letO (exprO n d) last rest = (wantO sLet last rest).bind fun _ l r => (someO (bindO (exprO n d)) l r).bind fun bs l2 r2 => (wantO sIn l2 r2).bind fun _ l3 r3 => (exprO n d l3 r3).bind fun x l4 r4 => .ok (.mk 6 [] false 0 [] [x] bs []) l4 r4 from rfl)
  have H0 := Lib.hid (And.intro HX.out.2.1 (And.intro (grown_of (b := b) (Below.refl W.heap.size W)) HX.out.2.2.2))
  have c0 := H0.out.2.2.env.letw.1.1
  have c1 := H0.out.2.2.env.letw.1.2
  have HC := Lib.hid (want_any b me ma last rest d sLet (by decide) W H0.out.1)
  go_wp2_with fail
  refine HC.out.mono ?_
  rintro e w1 h
  cases ho : wantO sLet last rest with
  | bad er ln =>
    rw [ho] at h
    obtain ⟨hbr, hg⟩ := h
    have hp := HP.out
    rw [ho, bind_bad] at hp
    have HB := Lib.hid (And.intro hp (grown_trans (grown_trans (grown_of (b := b) HX.out.1) H0.out.2.1) hg))
    unfold Broken at hbr
    subst hbr
    clear hg ho hp HC c0 c1
    go_wp2_with fail
    refine ⟨rfl, ?_⟩
    rw [HB.out.1]
    exact ⟨rfl, HB.out.2⟩
  | ok y l r =>
    rw [ho] at h
    obtain ⟨rfl, hR, hg⟩ := h
    have hlr := congrArg List.length (wantO_less (by decide) ho)
    simp only [List.length_cons] at hlr
    have hp := HP.out
    rw [ho, bind_ok] at hp
    have HQ := Lib.hid hp
    have hgW := grown_trans H0.out.2.1 hg
    have HG1 := Lib.hid hg
    have hsz1 : W.heap.size ≤ w1.heap.size := hg.size
    have H1 := Lib.hid (And.intro hR (And.intro hgW (HX.out.2.2.2.later hgW)))
    clear hp ho HP HC hg hgW hR c0 c1
    have HP := HQ
    clear HQ
    have HC := Lib.hid (binds_any b me ma B n d hEx l r (by omega) (by omega) w1 H1.out.2.2 H1.out.1)
    go_wp2_with fail
    refine HC.out.mono ?_
    rintro e w2 h
    cases ho : someO (bindO (exprO n d)) l r with
    | bad er ln =>
      rw [ho] at h
      obtain ⟨hbr, hg⟩ := h
      have hp := HP.out
      rw [ho, bind_bad] at hp
      have HB := Lib.hid (And.intro hp (grown_trans (grown_trans (grown_of (b := b) HX.out.1) H1.out.2.1) hg))
      unfold Broken at hbr
      subst hbr
      clear hg ho hp HC 
      go_wp2_with fail
      refine ⟨rfl, ?_⟩
      rw [HB.out.1]
      exact ⟨rfl, HB.out.2⟩
    | ok bs l2 r2 =>
      rw [ho] at h
      have hlr2 : r2.length ≤ r.length := by have h := some_shrinks (bind_shrinks (expr_shrinks n d)) l r; rw [ho] at h; exact h
      obtain ⟨⟨v, csL, rfl, hown, hat⟩, hR, hg⟩ := h
      obtain ⟨aL, cL, rfl, -⟩ := own_shape hown
      have HTL := Lib.hid (And.intro hown hat)
      clear hown hat
      have hp := HP.out
      rw [ho, bind_ok] at hp
      have HQ := Lib.hid hp
      have hgW := grown_trans H1.out.2.1 hg
      have HG2 := Lib.hid hg
      have hsz2 : w1.heap.size ≤ w2.heap.size := hg.size
      have H2 := Lib.hid (And.intro hR (And.intro hgW (HX.out.2.2.2.later hgW)))
      clear hp ho HP HC hg hgW hR 
      have HP := HQ
      clear HQ
      have c0 := H2.out.2.2.env.inw.1.1
      have c1 := H2.out.2.2.env.inw.1.2
      have HC := Lib.hid (want_any b me ma l2 r2 d sIn (by decide) w2 H2.out.1)
      go_wp2_with fail
      refine HC.out.mono ?_
      rintro e w3 h
      cases ho : wantO sIn l2 r2 with
      | bad er ln =>
        rw [ho] at h
        obtain ⟨hbr, hg⟩ := h
        have hp := HP.out
        rw [ho, bind_bad] at hp
        have HB := Lib.hid (And.intro hp (grown_trans (grown_trans (grown_of (b := b) HX.out.1) H2.out.2.1) hg))
        unfold Broken at hbr
        subst hbr
        clear hg ho hp HC c0 c1
        go_wp2_with fail
        refine ⟨rfl, ?_⟩
        rw [HB.out.1]
        exact ⟨rfl, HB.out.2⟩
      | ok y2 l3 r3 =>
        rw [ho] at h
        obtain ⟨rfl, hR, hg⟩ := h
        have hlr3 := congrArg List.length (wantO_less (by decide) ho)
        simp only [List.length_cons] at hlr3
        have hp := HP.out
        rw [ho, bind_ok] at hp
        have HQ := Lib.hid hp
        have hgW := grown_trans H2.out.2.1 hg
        have HG3 := Lib.hid hg
        have hsz3 : w2.heap.size ≤ w3.heap.size := hg.size
        have H3 := Lib.hid (And.intro hR (And.intro hgW (HX.out.2.2.2.later hgW)))
        clear hp ho HP HC hg hgW hR c0 c1
        have HP := HQ
        clear HQ
        have HC := Lib.hid (hEx l3 r3 w3 (by omega) (by omega) H3.out.2.2 H3.out.1)
        go_wp2_with fail
        refine HC.out.mono ?_
        rintro e w4 h
        cases ho : exprO n d l3 r3 with
        | bad er ln =>
          rw [ho] at h
          obtain ⟨hbr, hg⟩ := h
          have hp := HP.out
          rw [ho, bind_bad] at hp
          have HB := Lib.hid (And.intro hp (grown_trans (grown_trans (grown_of (b := b) HX.out.1) H3.out.2.1) hg))
          unfold Broken at hbr
          subst hbr
          clear hg ho hp HC 
          go_wp2_with fail
          refine ⟨rfl, ?_⟩
          rw [HB.out.1]
          exact ⟨rfl, HB.out.2⟩
        | ok x l4 r4 =>
          rw [ho] at h
          have hlr4 : r4.length ≤ r3.length := by have h := expr_shrinks n d l3 r3; rw [ho] at h; exact h
          obtain ⟨⟨k3, nm3, f3, u3, vp, vk, vb, va, rfl, hat⟩, hR, hg⟩ := h
          obtain ⟨⟨ap3, np3, cp3, rfl⟩, ⟨ak3, nk3, ck3, rfl⟩, ⟨ab3, nb3, cb3, rfl⟩, ⟨aa3, na3, ca3, rfl⟩⟩ := hat.slices
          have HT3 := Lib.hid hat
          clear hat
          have hp := HP.out
          rw [ho, bind_ok] at hp
          have HQ := Lib.hid hp
          have hgW := grown_trans H3.out.2.1 hg
          have HG4 := Lib.hid hg
          have hsz4 : w3.heap.size ≤ w4.heap.size := hg.size
          have H4 := Lib.hid (And.intro hR (And.intro hgW (HX.out.2.2.2.later hgW)))
          clear hp ho HP HC hg hgW hR 
          have HP := HQ
          clear HQ
          have hy := (Below.refl w4.heap.size w4).alloc (Nat.le_refl _) (.cells #[.int .i64 k3, .string nm3, .bool f3, .int .u64 u3, .slice ap3 np3 cp3, .slice ak3 nk3 ck3, .slice ab3 nb3 cb3, .slice aa3 na3 ca3] 49)
          have hszA : w4.heap.size ≤ (w4.alloc (.cells #[.int .i64 k3, .string nm3, .bool f3, .int .u64 u3, .slice ap3 np3 cp3, .slice ak3 nk3 ck3, .slice ab3 nb3 cb3, .slice aa3 na3 ca3] 49)).heap.size := hy.size
          have hBp : BoxW (w4.alloc (.cells #[.int .i64 k3, .string nm3, .bool f3, .int .u64 u3, .slice ap3 np3 cp3, .slice ak3 nk3 ck3, .slice ab3 nb3 cb3, .slice aa3 na3 ca3] 49)) w.heap.size [.int .i64 0, .string ⟨#[]⟩, .bool false, .int .u64 0, .slice none 0 0, .slice none 0 0, .slice none 0 0, .slice none 0 0] := boxw_grown HX.out.2.2.1 (grown_trans H4.out.2.1 (grown_of (b := b) hy)) (by omega)
          have d0 : (w4.alloc (.cells #[.int .i64 k3, .string nm3, .bool f3, .int .u64 u3, .slice ap3 np3 cp3, .slice ak3 nk3 ck3, .slice ab3 nb3 cb3, .slice aa3 na3 ca3] 49)).cell? ⟨w.heap.size, 0, none⟩ = some _ := hBp.1 0 _ rfl
          have d1 : (w4.alloc (.cells #[.int .i64 k3, .string nm3, .bool f3, .int .u64 u3, .slice ap3 np3 cp3, .slice ak3 nk3 ck3, .slice ab3 nb3 cb3, .slice aa3 na3 ca3] 49)).cell? ⟨w.heap.size, 1, none⟩ = some _ := hBp.1 1 _ rfl
          have d2 : (w4.alloc (.cells #[.int .i64 k3, .string nm3, .bool f3, .int .u64 u3, .slice ap3 np3 cp3, .slice ak3 nk3 ck3, .slice ab3 nb3 cb3, .slice aa3 na3 ca3] 49)).cell? ⟨w.heap.size, 2, none⟩ = some _ := hBp.1 2 _ rfl
          have d3 : (w4.alloc (.cells #[.int .i64 k3, .string nm3, .bool f3, .int .u64 u3, .slice ap3 np3 cp3, .slice ak3 nk3 ck3, .slice ab3 nb3 cb3, .slice aa3 na3 ca3] 49)).cell? ⟨w.heap.size, 3, none⟩ = some _ := hBp.1 3 _ rfl
          have d4 : (w4.alloc (.cells #[.int .i64 k3, .string nm3, .bool f3, .int .u64 u3, .slice ap3 np3 cp3, .slice ak3 nk3 ck3, .slice ab3 nb3 cb3, .slice aa3 na3 ca3] 49)).cell? ⟨w.heap.size, 4, none⟩ = some _ := hBp.1 4 _ rfl
          have d5 : (w4.alloc (.cells #[.int .i64 k3, .string nm3, .bool f3, .int .u64 u3, .slice ap3 np3 cp3, .slice ak3 nk3 ck3, .slice ab3 nb3 cb3, .slice aa3 na3 ca3] 49)).cell? ⟨w.heap.size, 5, none⟩ = some _ := hBp.1 5 _ rfl
          have d6 : (w4.alloc (.cells #[.int .i64 k3, .string nm3, .bool f3, .int .u64 u3, .slice ap3 np3 cp3, .slice ak3 nk3 ck3, .slice ab3 nb3 cb3, .slice aa3 na3 ca3] 49)).cell? ⟨w.heap.size, 6, none⟩ = some _ := hBp.1 6 _ rfl
          have d7 : (w4.alloc (.cells #[.int .i64 k3, .string nm3, .bool f3, .int .u64 u3, .slice ap3 np3 cp3, .slice ak3 nk3 ck3, .slice ab3 nb3 cb3, .slice aa3 na3 ca3] 49)).cell? ⟨w.heap.size, 7, none⟩ = some _ := hBp.1 7 _ rfl
          have z0 : (w4.alloc (.cells #[.int .i64 k3, .string nm3, .bool f3, .int .u64 u3, .slice ap3 np3 cp3, .slice ak3 nk3 ck3, .slice ab3 nb3 cb3, .slice aa3 na3 ca3] 49)).frozen? ⟨w.heap.size, 0, none⟩ = false := hBp.2 0
          have z1 : (w4.alloc (.cells #[.int .i64 k3, .string nm3, .bool f3, .int .u64 u3, .slice ap3 np3 cp3, .slice ak3 nk3 ck3, .slice ab3 nb3 cb3, .slice aa3 na3 ca3] 49)).frozen? ⟨w.heap.size, 1, none⟩ = false := hBp.2 1
          have z2 : (w4.alloc (.cells #[.int .i64 k3, .string nm3, .bool f3, .int .u64 u3, .slice ap3 np3 cp3, .slice ak3 nk3 ck3, .slice ab3 nb3 cb3, .slice aa3 na3 ca3] 49)).frozen? ⟨w.heap.size, 2, none⟩ = false := hBp.2 2
          have z3 : (w4.alloc (.cells #[.int .i64 k3, .string nm3, .bool f3, .int .u64 u3, .slice ap3 np3 cp3, .slice ak3 nk3 ck3, .slice ab3 nb3 cb3, .slice aa3 na3 ca3] 49)).frozen? ⟨w.heap.size, 3, none⟩ = false := hBp.2 3
          have z4 : (w4.alloc (.cells #[.int .i64 k3, .string nm3, .bool f3, .int .u64 u3, .slice ap3 np3 cp3, .slice ak3 nk3 ck3, .slice ab3 nb3 cb3, .slice aa3 na3 ca3] 49)).frozen? ⟨w.heap.size, 4, none⟩ = false := hBp.2 4
          have z5 : (w4.alloc (.cells #[.int .i64 k3, .string nm3, .bool f3, .int .u64 u3, .slice ap3 np3 cp3, .slice ak3 nk3 ck3, .slice ab3 nb3 cb3, .slice aa3 na3 ca3] 49)).frozen? ⟨w.heap.size, 5, none⟩ = false := hBp.2 5
          have z6 : (w4.alloc (.cells #[.int .i64 k3, .string nm3, .bool f3, .int .u64 u3, .slice ap3 np3 cp3, .slice ak3 nk3 ck3, .slice ab3 nb3 cb3, .slice aa3 na3 ca3] 49)).frozen? ⟨w.heap.size, 6, none⟩ = false := hBp.2 6
          have z7 : (w4.alloc (.cells #[.int .i64 k3, .string nm3, .bool f3, .int .u64 u3, .slice ap3 np3 cp3, .slice ak3 nk3 ck3, .slice ab3 nb3 cb3, .slice aa3 na3 ca3] 49)).frozen? ⟨w.heap.size, 7, none⟩ = false := hBp.2 7
          have HBp := Lib.hid hBp
          clear hBp
          go_wp2_with fail
          have hF := ((((((((HBp.out).set 0 (show 0 < 8 by decide) (.int .i64 6)).set 1 (show 1 < 8 by decide) (.string ⟨#[]⟩)).set 2 (show 2 < 8 by decide) (.bool false)).set 3 (show 3 < 8 by decide) (.int .u64 0)).set 4 (show 4 < 8 by decide) (.slice none 0 0)).set 5 (show 5 < 8 by decide) (.slice (some ⟨w4.heap.size, 0, none⟩) 1 1)).set 6 (show 6 < 8 by decide) (.slice aL bs.length cL)).set 7 (show 7 < 8 by decide) (.slice none 0 0)
          have v0 := hF.1 0 _ rfl
          have v1 := hF.1 1 _ rfl
          have v2 := hF.1 2 _ rfl
          have v3 := hF.1 3 _ rfl
          have v4 := hF.1 4 _ rfl
          have v5 := hF.1 5 _ rfl
          have v6 := hF.1 6 _ rfl
          have v7 := hF.1 7 _ rfl
          refine bodyPost_ret (v := .agg #[.int .i64 6, .string ⟨#[]⟩, .bool false, .int .u64 0, .slice none 0 0, .slice (some ⟨w4.heap.size, 0, none⟩) 1 1, .slice aL bs.length cL, .slice none 0 0]) (by simp [results, Tryz.results52, go_sem, v0, v1, v2, v3, v4, v5, v6, v7]) rfl ?_
          rw [HP.out]
          refine ⟨⟨_, _, _, _, _, _, _, _, rfl, ?_⟩, (((((((((H4.out.1.later hy)).over hlt _).over hlt _).over hlt _).over hlt _).over hlt _).over hlt _).over hlt _).over hlt _, (grown_new (grown_new (grown_new (grown_new (grown_new (grown_new (grown_new (grown_new (grown_trans (grown_of (b := b) HX.out.1) (grown_trans H4.out.2.1 (grown_of (b := b) hy))) (Nat.le_refl _) _) (Nat.le_refl _) _) (Nat.le_refl _) _) (Nat.le_refl _) _) (Nat.le_refl _) _) (Nat.le_refl _) _) (Nat.le_refl _) _) (Nat.le_refl _) _)⟩
          exact .mk 6 [] false 0 [] [x] bs [] _ _ (.slice aL bs.length cL) _ [.int .i64 k3, .string nm3, .bool f3, .int .u64 u3, .slice ap3 np3 cp3, .slice ak3 nk3 ck3, .slice ab3 nb3 cb3, .slice aa3 na3 ca3] csL [] (RowAt.nil _ _ _ _) ((RowAt.own (own_built (g := w4.heap.size) (base := w4.heap.size) (n := 1) (cs := #[.int .i64 k3, .string nm3, .bool f3, .int .u64 u3, .slice ap3 np3 cp3, .slice ak3 nk3 ck3, .slice ab3 nb3 cb3, .slice aa3 na3 ca3]) (heap_alloc_new _ _) (Nat.le_refl _) rfl (by decide))).kp (((((((((((((((Kp.set _ _ _ _ (Or.inl (by omega)))).trans (Kp.set _ _ _ _ (Or.inl (by omega))))).trans (Kp.set _ _ _ _ (Or.inl (by omega))))).trans (Kp.set _ _ _ _ (Or.inl (by omega))))).trans (Kp.set _ _ _ _ (Or.inl (by omega))))).trans (Kp.set _ _ _ _ (Or.inl (by omega))))).trans (Kp.set _ _ _ _ (Or.inl (by omega))))).trans (Kp.set _ _ _ _ (Or.inl (by omega)))) (by omega)) ((RowAt.own HTL.out.1).kp ((((((Kp.grown HG3.out (by omega) (by omega)).trans (Kp.grown HG4.out (by omega) (by omega)))).trans (Kp.below hy (by omega)))).trans (((((((((((((((Kp.set _ _ _ _ (Or.inl (by omega)))).trans (Kp.set _ _ _ _ (Or.inl (by omega))))).trans (Kp.set _ _ _ _ (Or.inl (by omega))))).trans (Kp.set _ _ _ _ (Or.inl (by omega))))).trans (Kp.set _ _ _ _ (Or.inl (by omega))))).trans (Kp.set _ _ _ _ (Or.inl (by omega))))).trans (Kp.set _ _ _ _ (Or.inl (by omega))))).trans (Kp.set _ _ _ _ (Or.inl (by omega))))) (by omega)) (RowAt.nil _ _ _ _) (ExsAt.cons x [] [.int .i64 k3, .string nm3, .bool f3, .int .u64 u3, .slice ap3 np3 cp3, .slice ak3 nk3 ck3, .slice ab3 nb3 cb3, .slice aa3 na3 ca3] [] ((HT3.out).kp (((Kp.below hy (by omega))).trans (((((((((((((((Kp.set _ _ _ _ (Or.inl (by omega)))).trans (Kp.set _ _ _ _ (Or.inl (by omega))))).trans (Kp.set _ _ _ _ (Or.inl (by omega))))).trans (Kp.set _ _ _ _ (Or.inl (by omega))))).trans (Kp.set _ _ _ _ (Or.inl (by omega))))).trans (Kp.set _ _ _ _ (Or.inl (by omega))))).trans (Kp.set _ _ _ _ (Or.inl (by omega))))).trans (Kp.set _ _ _ _ (Or.inl (by omega))))) (by omega)) .nil) ((HTL.out.2).kp ((((((Kp.grown HG3.out (by omega) (by omega)).trans (Kp.grown HG4.out (by omega) (by omega)))).trans (Kp.below hy (by omega)))).trans (((((((((((((((Kp.set _ _ _ _ (Or.inl (by omega)))).trans (Kp.set _ _ _ _ (Or.inl (by omega))))).trans (Kp.set _ _ _ _ (Or.inl (by omega))))).trans (Kp.set _ _ _ _ (Or.inl (by omega))))).trans (Kp.set _ _ _ _ (Or.inl (by omega))))).trans (Kp.set _ _ _ _ (Or.inl (by omega))))).trans (Kp.set _ _ _ _ (Or.inl (by omega))))).trans (Kp.set _ _ _ _ (Or.inl (by omega))))) (by omega)) .nil

end Go.Proofs.YtbnmmbjajheedaaGreatDoor
