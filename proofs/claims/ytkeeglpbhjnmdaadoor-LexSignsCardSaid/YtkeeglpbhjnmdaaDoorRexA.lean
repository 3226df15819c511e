/- The document's Lex tells what the program's tells. -/
import Derived.Test.YtkeeglpbhjnmdaaDoorLxZ
import Derived.Test.YtkeeglpbhjnmdaaDoorLxX
namespace Go.Proofs.YtkeeglpbhjnmdaaDoor
open Go.RowKit Go.Lib

theorem tail_of {s : ByteArray} {k : Nat} {c : UInt8} (h : s.data.toList.drop k = c :: s.data.toList.drop (k + 1)) (m : Nat) : (c :: s.data.toList.drop (k + 1)).drop m = s.data.toList.drop (k + m) := by
  rw [← h, List.drop_drop]
theorem slice_form {base : Nat} {v : Value} {n : Nat} {xs : List Value} {W : World} (h : W.ownsRow base 35 5 v n xs) : ∃ a c, v = .slice a n c := by
  rcases h.2 with ⟨e, e2⟩ | ⟨g, cap, cur, e, _⟩
  · subst e2
    exact ⟨_, _, e⟩
  · exact ⟨_, _, e⟩

set_option maxHeartbeats 16000000 in
set_option maxRecDepth 100000 in
theorem reflex_any (s : ByteArray) (hs : s.size ≤ 100000) (w : World) : Calls Tryd.prog 11 #[.string s] w (LexSaid (lexL s.data.toList) w) := by
  obtain ⟨i0, hi0, hz0, hzs, hzb⟩ := info_parts Tryd.info_token
  have HSK := Lib.hid (fun W => skip_any s hs 0 (by omega) 1 (by omega) (by omega) W)
  go_enter Tryd.func11, Tryd.ntmps11
  go_wp2_with fail
  refine (HSK.out _).mono ?_
  rintro e W ⟨k0, ln0, rfl, hsk, hst, hb⟩
  have hF0 : lexF (s.data.toList.drop k0) ln0 [] = lexL s.data.toList := by
    rw [← hsk.eq, List.drop_zero]
    rfl
  have HW := Lib.hid hb
  have HF0 := Lib.hid (And.intro hF0 (And.intro hst (And.intro hsk.le (And.intro hsk.l0 hsk.l1))))
  clear hb hF0 hst hsk HSK
  go_wp2_with fail
  go_loopw [5, 6, 7] (fun s5 s6 s7 wr => ∃ (k : Nat) (ln : Int) (acc : List (Tk × Int)) (vv : Value), k ≤ s.size ∧ vv = s5 ∧ s6 = .int .i64 k ∧ s7 = .int .i64 ln ∧ lexF (s.data.toList.drop k) ln acc = lexL s.data.toList ∧ Starts (s.data.toList.drop k) ∧ wr.ownsRow W.heap.size 35 5 vv acc.length (flatT acc) ∧ Below W.heap.size W wr ∧ 0 ≤ ln ∧ ln ≤ 1 + k ∧ acc.length ≤ 4096) (fun _ s6 _ _ => s.size - (RowKit.intOf s6).toNat)
  case atStart => exact ⟨k0, ln0, [], _, HF0.out.2.2.1, rfl, rfl, rfl, HF0.out.1, HF0.out.2.1, World.ownsRow_nil _ _ _ _, Below.refl _ _, by have := HF0.out.2.2.2.1; omega, by have := HF0.out.2.2.2.2; omega, by simp⟩
  case round =>
    clear HF0
    obtain ⟨k, ln, acc, vv, hk, rfl, rfl, rfl, hR, hst, hown, hbw, hl0, hl1, hacc⟩ := hrel
    obtain ⟨aa, cc, rfl⟩ := slice_form hown
    have HQ := Lib.hid (And.intro hR (And.intro hown (And.intro hbw hst)))
    clear hR hown hbw hst
    by_cases hlt : k < s.size
    · have hlt' : (k : Int) < (s.size : Int) := by omega
      obtain ⟨c, hd, hsc⟩ := drop_cons_of hlt
      obtain ⟨h10, hbl, hp⟩ := HQ.out.2.2.2 c _ hd
      have hstep := HQ.out.1
      rw [hd] at hp hstep
      rw [lexF_tok ln acc h10 hbl hp] at hstep
      have hlen : (readL (c :: s.data.toList.drop (k + 1))).2 = 0 → 1 ≤ (readL (c :: s.data.toList.drop (k + 1))).1.t.length ∧ (readL (c :: s.data.toList.drop (k + 1))).1.t.length ≤ s.size - k := fun e => by
        have h1 := read_len e
        have h2 := congrArg List.length hd
        rw [List.length_drop, ← size_eq] at h2
        omega
      have ht := tail_of hd
      have HO := Lib.hid (fun W => one_any s hs k hlt ln c hd hsc W)
      rw [one_read] at hstep hlen
      have HST := Lib.hid (And.intro hstep (And.intro hlen ht))
      clear hstep hlen ht hd hp h10 hbl hsc
      go_wp2_with fail
      refine (HO.out _).mono ?_
      rintro e w2 ⟨kd, bb, ff, xx, rfl, hgood, hb⟩
      have hQ2 := And.intro (onB' HQ.out.2.2.1 hb) (own_below HQ.out.2.1 hb)
      obtain ⟨⟨yk, yt, yf, yx⟩, er, hone⟩ : ∃ y er, oneL c (s.data.toList.drop (k + 1)) = (y, er) := ⟨_, _, rfl⟩
      rw [hone] at hgood
      simp only at hgood
      have hstep := HST.out.1
      have hlen := HST.out.2.1
      rw [hone] at hstep hlen
      simp only at hstep hlen
      rw [hone]
      simp only
      have HG := Lib.hid (And.intro hgood hlen)
      have HN := Lib.hid hstep
      have HQ2 := Lib.hid hQ2
      clear hgood hb hQ2 hone hstep hlen HO
      go_upto_region 5 with fail
      have hx3 := (Below.refl w2.heap.size w2).alloc (Nat.le_refl _) (.cells #[.int .i64 kd, .string bb, .bool ff, .int .u64 xx, .int .i64 ln] 35)
      have t3 := bx_new w2 kd bb ff xx ln
      have hlt3 : ∀ g, (Value.slice aa acc.length cc).ownBlock = some g → g < w2.heap.size := fun g hg => (HQ2.out.2.lt g hg).2
      have H3 := Lib.hid (And.intro (onB' HQ2.out.1 hx3) (And.intro (own_below HQ2.out.2 hx3) (And.intro t3 hlt3)))
      clear hx3 t3 hlt3
      generalize (w2.alloc (.cells #[.int .i64 kd, .string bb, .bool ff, .int .u64 xx, .int .i64 ln] 35)) = W3 at *
      generalize w2.heap.size = p at *
      by_cases g0 : er = 0
      · subst g0
        obtain ⟨rfl, hbt, rfl, rfl⟩ := HG.out.1 rfl
        obtain ⟨hy1, hy2⟩ := HG.out.2 rfl
        by_cases g4 : acc.length = 4096
        · have f4 : ((acc.length : Int) == 4096) = true := by rw [g4]; rfl
          have hgd := HN.out
          rw [if_pos rfl, if_pos g4] at hgd
          have HGD := Lib.hid hgd
          clear hgd g4 hbt
          go_wp2_with fail
          refine bodyPost_ret (v := .tuple #[.slice none 0 0, .int .i64 2, .int .i64 ln]) (by simp [results, Tryd.results11, go_sem]) rfl ?_
          rw [← HGD.out]
          exact ⟨onB' HW.out H3.out.1, rfl⟩
        · have f4 : ((acc.length : Int) == 4096) = false := by simp; omega
          have hgd := HN.out
          rw [if_pos rfl, if_neg g4, HST.out.2.2] at hgd
          have hbz : bb.size = yt.length := by rw [size_eq, hbt]
          rw [← hbz] at hgd
          have hb1 : 1 ≤ bb.size := by omega
          have hb2 : bb.size ≤ s.size - k := by omega
          have hbb := ba_of hbt
          clear hbz hy1 hy2
          have HGD := Lib.hid (And.intro hgd hbb)
          clear hgd hbb hbt
          obtain ⟨x0, x1, x2, x3, x4, -⟩ := H3.out.2.2.1
          have m9 : acc.length + 1 ≤ maxLen := by unfold maxLen; omega
          have m48 : (acc.length + 1) * 48 ≤ 140737488355328 := by omega
          have one5 : ∀ y ∈ [Value.int .i64 kd, .string bb, .bool ff, .int .u64 xx, .int .i64 ln], y.oneCell' = true := by intro y hy; simp at hy; rcases hy with rfl | rfl | rfl | rfl | rfl <;> rfl
          go_upto_region 10 with (at_builtin; refine wpList_append_lies _ rfl _ _ 23 rfl W.heap.size 35 i0 (.agg #[.int .i64 0, .string ⟨#[]⟩, .bool false, .int .u64 0, .int .i64 0]) 5 48 Tryd.underlying23 hi0 hz0 hzs hzb rfl (by decide) (.slice aa acc.length cc) acc.length (flatT acc) rfl (H3.out.2.1.alloc _) ⟨W3.heap.size, 0, none⟩ 1 1 [.int .i64 kd, .string bb, .bool ff, .int .u64 xx, .int .i64 ln] rfl rfl (World.news_of_block (heap_alloc_new _ _)) one5 (by decide) m9 m48 (by simp; have := H3.out.1.size; omega) _ rfl ?_; intro g9 cap9 w11 o1 o2 o3 o4)
          have hxx := (Below.refl W3.heap.size W3).alloc (Nat.le_refl _) (.cells #[.int .i64 kd, .string bb, .bool ff, .int .u64 xx, .int .i64 ln] 35)
          have hob : ∀ g, (Value.slice aa acc.length cc).ownBlock = some g → W.heap.size ≤ g := fun g hg => (H3.out.2.1.lt g hg).1
          have hne : some p ≠ (Value.slice aa acc.length cc).ownBlock := fun e => by
            have := H3.out.2.2.2 p e.symm
            omega
          have hB11 : Below W.heap.size W w11 := by
            have h0 := onB' H3.out.1 hxx
            have hs0 := H3.out.1.size
            exact ⟨o2.os.trans h0.os, o2.tape.trans h0.tape, o2.output.trans h0.output, Nat.le_trans h0.size o2.size, fun q hq => (o2.block q (by have := h0.size; omega) (fun e => by have := hob q e.symm; omega)).trans (h0.block q hq)⟩
          have e1 := o2.cell (later' hxx x1) (by simpa using hne)
          have HO := Lib.hid (And.intro o1 hB11)
          have hkb : k + bb.size ≤ s.size := by omega
          have hsk := fun W => skip_any s hs (k + bb.size) hkb ln hl0 (by omega) W
          have ec : ((k + bb.size : Nat) : Int) = (k : Int) + (bb.size : Int) := by omega
          rw [ec] at hsk
          have HSK := Lib.hid hsk
          have es : IntKind.i64.wrap ((k : Int) + (bb.size : Int)) = (k : Int) + (bb.size : Int) := by rw [IntKind.wrap_i64]; omega
          clear o1 o2 o3 o4 hB11 hxx hob hne x0 x1 x2 x3 x4 hsk ec one5
          go_wp2_with fail
          refine (HSK.out _).mono ?_
          rintro e w12 ⟨k2, ln2, rfl, hsk, hst, hb⟩
          have hz2 := hsk.le
          have hz3 := hsk.ge
          have hz4 := hsk.l0
          have hz5 := hsk.l1
          have HK := Lib.hid (And.intro ((hsk.eq _).symm.trans HGD.out.1) (And.intro hst (And.intro (onB' HO.out.2 hb) (own_below HO.out.1 hb))))
          clear hsk hst hb e1
          go_wp2_with fail
          refine ⟨⟨k2, ln2, acc ++ [(⟨kd, yt, ff, xx⟩, ln)], _, hz2, rfl, rfl, rfl, HK.out.1, HK.out.2.1, ?_, HK.out.2.2.1, by omega, by omega, by simp; omega⟩, by simp [RowKit.intOf]; omega⟩
          rw [flatT_append]
          have hlen : (acc ++ [((⟨kd, yt, ff, xx⟩ : Tk), ln)]).length = acc.length + 1 := by simp
          rw [hlen]
          have := HK.out.2.2.2
          rw [HGD.out.2] at this
          exact this
      · have f0 : (er == 0) = false := by simpa using g0
        have f1 : (er != 0) = true := by simpa using g0
        have hgd := HN.out
        rw [if_neg g0] at hgd
        have HGD := Lib.hid hgd
        clear hgd
        go_wp2_with fail
        refine bodyPost_ret (v := .tuple #[.slice none 0 0, .int .i64 er, .int .i64 ln]) (by simp [results, Tryd.results11, go_sem]) rfl ?_
        rw [← HGD.out]
        exact ⟨onB' HW.out H3.out.1, rfl⟩
    · obtain rfl : k = s.size := by omega
      have hgd : lexL s.data.toList = .good acc := by
        rw [← HQ.out.1, List.drop_of_length_le (by simp), lexF_nil]
      have HGD := Lib.hid hgd
      clear hgd
      go_wp2_with fail
      refine bodyPost_ret (v := .tuple #[.slice aa acc.length cc, .int .i64 0, .int .i64 0]) (by simp [results, Tryd.results11, go_sem]) rfl ?_
      rw [HGD.out]
      exact ⟨onB' HW.out HQ.out.2.2.1, aa, acc.length, cc, rfl, own_base HQ.out.2.1 HW.out.size⟩

end Go.Proofs.YtkeeglpbhjnmdaaDoor
