/- StackOnce, walked. -/
import Derived.Test.YtalfhcmccdnajaaSkU
import Derived.Laws.MakeOwn
namespace Go.Proofs.Ytalfhcmccdnajaa
open Go.RowKit Go.Sort

theorem Try.info_int3 : (Try.prog.info? 3).map (fun i => (i.zero, i.size, i.bytes)) = some (some (.int .i64 0), 1, 8) := by kernel_rfl

set_option maxHeartbeats 32000000 in
set_option maxRecDepth 100000 in
theorem once_in (fr : List Int) (a0 : Option Addr) (c0 : Nat) (a1 : Option Addr) (len cap : Nat) (X : Nat → Int) (F : Nat → Fr) (w : World) (hfr : WAt (fun _ => True) w ⟨0, 0, fr, a0, c0⟩) (hA : Acts w a1 len X F) (h60 : fr.length ≤ 60) (hf : Few len F) :
    Calls Try.prog 4 #[.slice a0 fr.length c0, .slice a1 len cap] w fun e w' => e = .returned (.bool true) ∧ Below w.heap.size w w' := by
  have hb0 := (Below.refl w.heap.size w).alloc (Nat.le_refl _) (.cells #[.slice a0 fr.length c0] 35)
  have hx0 := heap_alloc_new w (.cells #[.slice a0 fr.length c0] 35)
  have c00 := cell_of_row _ _ 0 _ _ _ hx0
  have HB0 := Lib.hid hb0
  have hlt : w.heap.size < (w.alloc (.cells #[.slice a0 fr.length c0] 35)).heap.size := by rw [World.size_alloc]; omega
  have HA := Lib.hid (And.intro hA (And.intro hf (And.intro hfr h60)))
  have h6' : ¬ (fr.length : Int) > 60 := by omega
  clear hb0 hx0 hfr hA hf
  go_enter Try.func4, Try.ntmps4
  go_wp2_with fail
  refine (awake_any _).mono ?_
  rintro e w1 ⟨rfl, hB⟩
  have d0 := (World.cell?_of_block (a := ⟨w.heap.size, 0, none⟩) (hB.block w.heap.size hlt)).trans c00
  have HB := Lib.hid (And.intro (HB0.out.trans (hB.mono HB0.out.size)) (Nat.lt_of_lt_of_le hlt hB.size))
  clear hB c00 hlt
  go_wp2_with fail
  refine (few_true a1 len cap X F w _ HA.out.1 HB.out.1 HA.out.2.1).mono ?_
  rintro e w2 ⟨rfl, rfl⟩
  go_wp2_with fail
  refine (new_in 4096 (by decide) (by decide) _).mono ?_
  rintro e w3 ⟨p, v, rfl, hS, hB3, hp, hv⟩
  have hP : Pre w p v [] 0 fr w.heap.size a0 c0 w3 := ⟨⟨hS, HB.out.1.trans (hB3.mono HB.out.1.size), by have := HB.out.1.size; omega, fun g hg => by rw [hv] at hg; cases hg⟩, rfl, fun j f hf => by simp at hf, rfl, (World.cell?_of_block (a := ⟨w.heap.size, 0, none⟩) (hB3.block w.heap.size HB.out.2)).trans d0, ⟨by have := HB.out.2; omega, by rw [hv]; simp⟩⟩
  have HP := Lib.hid hP
  clear hS hB3 hp hv hP d0 HB
  go_wp2_with fail
  go_loopw [7] (fun s7 wr => ∃ (i : Nat) (v : Value) (L : List Fr), i ≤ fr.length ∧ s7 = .int .i64 i ∧ Pre w p v L i fr w.heap.size a0 c0 wr) (fun s7 _ => fr.length - (RowKit.intOf s7).toNat)
  case atStart => exact ⟨0, v, [], Nat.zero_le _, rfl, HP.out⟩
  case round =>
    clear HP
    obtain ⟨i, v, L, hi, rfl, hP⟩ := hrel
    have cb := hP.cb
    have HP := Lib.hid hP
    clear hP
    by_cases hlt : i < fr.length
    · obtain ⟨g, o, he, -, hg, -, hc⟩ := HA.out.2.2.1.2 (by show 0 < fr.length; omega)
      simp only at he
      subst he
      obtain ⟨x, hx⟩ : ∃ x, fr[i]? = some x := ⟨_, List.getElem?_eq_getElem hlt⟩
      have d1 := (HP.out.mid.below.cell (p := ⟨g, o + i, none⟩) hg).trans (hc i x hx)
      have hlt' : (i : Int) < (fr.length : Int) := by omega
      have HXX := Lib.hid hx
      clear hc hx hg
      go_wp2_with fail
      have hb5 : Below wr.heap.size wr (wr.alloc (.cells #[.int .i64 x] 2)) := (Below.refl _ _).alloc (Nat.le_refl _) _
      have hP5 := HP.out.later hb5
      have hw5 : WAt (fun _ => True) (wr.alloc (.cells #[.int .i64 x] 2)) ⟨7, i, [x], some ⟨wr.heap.size, 0, none⟩, 1⟩ := by
        refine ⟨by show 1 ≤ maxLen; unfold maxLen; decide, fun _ => ⟨wr.heap.size, 0, rfl, Nat.le_refl _, by rw [World.size_alloc]; omega, trivial, fun j y hy => ?_⟩⟩
        rw [cell_of_row _ _ _ _ _ _ (heap_alloc_new _ _), Nat.zero_add]
        match j, hy with
        | 0, hy => simp at hy; subst hy; rfl
      refine (push_in p 0 4096 v L 7 i _ 1 [x] (fun _ => True) _ hP5.mid.st hw5 (by have := hP5.us; have := HA.out.2.2.2; simp only [List.length_singleton]; omega)).mono ?_
      rintro e w6 ⟨rfl, f, ht, hd, -⟩
      have HQ := Lib.hid (hP5.more hd HXX.out ht)
      clear hb5 hP5 hw5 hd ht d1 cb
      go_wp2_with fail
      go_roundw
      case rel =>
        obtain ⟨v', hQ⟩ := HQ.out
        exact ⟨i + 1, v', L ++ [f], by omega, by go_num, hQ⟩
      case measure => simp [RowKit.intOf]; omega
    · obtain rfl : i = fr.length := by omega
      go_wp2_with fail
      refine (begin_any p 0 4096 v L _ HP.out.mid.st).mono ?_
      rintro e w7 ⟨rfl, hk⟩
      obtain ⟨v7, hM7, cb7, ob7⟩ := HP.out.begin hk.did
      have hlen := HP.out.len
      rw [hlen] at hM7
      have HM7 := Lib.hid (And.intro hM7 (And.intro cb7 (And.intro ob7 HP.out.org)))
      clear hk hM7 ob7 cb
      obtain ⟨i0, hi0, hz0, hz1, hz2⟩ := info_parts Try.info_int3
      have hmk := fun W => run_make (P := Try.prog) W 49 3 i0 (.int .i64 0) Try.underlying49 hi0 hz0 .i64 .i64 fr.length fr.length (by omega) (Int.le_refl _) (by rw [hz2]; omega) (by omega)
      have hmf : ∀ (fn : Fn) (first cap : Array Value) (w : World), (Instr.makeFunc fn first cap).run Try.prog w = .ok (.func fn first cap) w := fun _ _ _ _ => rfl
      -- LOOP2
      have hz7 : (w7.alloc (.cells (madeCells #[Value.int IntKind.i64 0] fr.length) 3)).heap.size = w7.heap.size + 1 := World.size_alloc ..
      have hbA : Below w7.heap.size w7 (w7.alloc (.cells (madeCells #[Value.int IntKind.i64 0] fr.length) 3)) := (Below.refl _ _).alloc (Nat.le_refl _) _
      have hbB := hbA.alloc hbA.size (.cells #[.slice (some ⟨w7.heap.size, 0, none⟩) fr.length fr.length] 49)
      have hxt := heap_alloc_new w7 (.cells (madeCells #[Value.int IntKind.i64 0] fr.length) 3)
      have hxb := heap_alloc_new (w7.alloc (.cells (madeCells #[Value.int IntKind.i64 0] fr.length) 3)) (.cells #[.slice (some ⟨w7.heap.size, 0, none⟩) fr.length fr.length] 49)
      have hxt2 := (Below.heap_alloc (w7.alloc (.cells (madeCells #[Value.int IntKind.i64 0] fr.length) 3)) (.cells #[.slice (some ⟨w7.heap.size, 0, none⟩) fr.length fr.length] 49) w7.heap.size (by omega)).trans hxt
      have hO0 : Once w p v7 L fr.length fr.length fr w.heap.size (w7.heap.size + 1) w7.heap.size a0 c0 ((w7.alloc (.cells (madeCells #[Value.int IntKind.i64 0] fr.length) 3)).alloc (.cells #[.slice (some ⟨w7.heap.size, 0, none⟩) fr.length fr.length] 49)) := by
        have hlp := HM7.out.1.st.lp
        have hlo := HM7.out.1.st.fs.lt
        refine ⟨HM7.out.1.later hbB, Nat.le_refl _, fun j f _ hf => HM7.out.2.2.2 j f hf, (World.cell?_of_block (w := w7) (a := ⟨w.heap.size, 0, none⟩) (hbB.block _ (World.block_lt_of_cell? _ _ cb7))).trans cb7, ?_, fun j hj => ?_, fun j => frozen_of_row _ _ j _ _ hxt2, HM7.out.2.2.1, ⟨by omega, fun e => by have := hlo _ e.symm; omega⟩, ⟨by omega, fun e => by have := hlo _ e.symm; omega⟩, HM7.out.1.below.size, by omega, by have := World.block_lt_of_cell? _ _ cb7; simp only at this; omega, by rw [World.size_alloc, hz7]; omega, fun f hf => (HM7.out.1.st.ws f hf).move (fun g hl _ => ⟨by omega, hbB.block g hl⟩) hbB.size⟩
        · have h := cell_of_row _ _ 0 _ _ _ hxb
          rw [hz7] at h
          exact h
        · rw [cell_of_row _ _ j _ _ _ hxt2]
          have e1 : tval fr.length j = 0 := by unfold tval; rw [if_pos hj]
          rw [e1, ← Array.getElem?_toList, toList_madeCells_one]
          simp [hj]
      have HO0 := Lib.hid hO0
      clear hbA hbB hxt hxb hxt2 hz7 hO0
      go_wp2_with fail
      generalize (w7.alloc (.cells (madeCells #[Value.int IntKind.i64 0] fr.length) 3)).alloc (.cells #[.slice (some ⟨w7.heap.size, 0, none⟩) fr.length fr.length] 49) = wA at HO0 ⊢
      generalize w7.heap.size + 1 = bt at HO0 ⊢
      generalize w7.heap.size = gt at HO0 ⊢
      clear HM7 hmk hlen cb7
      go_loopw [10] (fun s10 wr => ∃ (k : Nat) (v : Value) (L : List Fr) (left : Nat), k ≤ len ∧ s10 = .int .i64 k ∧ Once w p v L left left fr w.heap.size bt gt a0 c0 wr) (fun s10 _ => len - (RowKit.intOf s10).toNat)
      case atStart => exact ⟨0, v7, L, fr.length, Nat.zero_le _, rfl, HO0.out⟩
      case round =>
        clear HO0
        have hl100 : len ≤ 100 := HA.out.2.1.1
        obtain ⟨k, v8, L8, left, hk, rfl, hO⟩ := hrel
        have HO := Lib.hid hO
        clear hO
        by_cases hlt : k < len
        · obtain ⟨b, off, rfl, hbl, hc⟩ := HA.out.1.at_ (by omega)
          obtain ⟨q0, q1, q2, q3⟩ := hc k hlt
          have hwk := HA.out.1.ws k hlt
          have hwl := HA.out.2.1.2 k hlt
          generalize F k = f at q1 q2 q3 hwk hwl
          generalize X k = x at q0
          replace q0 := (HO.out.mid.below.cell (p := ⟨b, off + k * 4, none⟩) hbl).trans q0
          replace q1 := (HO.out.mid.below.cell (p := ⟨b, off + k * 4 + 1, none⟩) hbl).trans q1
          replace q2 := (HO.out.mid.below.cell (p := ⟨b, off + k * 4 + 2, none⟩) hbl).trans q2
          replace q3 := (HO.out.mid.below.cell (p := ⟨b, off + k * 4 + 3, none⟩) hbl).trans q3
          have hb5 := fun o : Obj => (Below.refl wr.heap.size wr).alloc (Nat.le_refl _) o
          have HWA := Lib.hid (fun o : Obj => hwk.move (K' := fun _ => True) (fun g hg _ => ⟨trivial, (hb5 o).block g (Nat.lt_of_lt_of_le hg HO.out.mid.below.size) |>.trans (HO.out.mid.below.block g hg)⟩) (Nat.le_trans HO.out.mid.below.size (hb5 o).size))
          have HO5 := Lib.hid (fun o : Obj => HO.out.later (hb5 o))
          have HWL := Lib.hid hwl
          clear hc hbl hwk hwl hb5
          by_cases hx3 : x = 3
          · subst hx3
            have HR := Lib.hid (HO5.out (.cells #[.int .i64 3, .int .i64 f.k, .int .i64 f.n, .slice f.a f.ws.length f.c] TA))
            go_wp2_with fail
            go_roundw
            case rel => exact ⟨k + 1, _, _, _, by omega, by go_num, HR.out⟩
            case measure => simp [RowKit.intOf]; omega
          by_cases hx0 : x = 0
          · subst hx0
            by_cases hfit : (f.ws.length : Int) + 2 ≤ 4096 - used L8
            · have HF := Lib.hid hfit
              go_wp2_with fail
              refine (do_push_in p left 4096 v8 L8 1 f.n f.a f.c f.ws _ (HO5.out _).mid.st (HWA.out _) HF.out).mono ?_
              rintro e w6 ⟨f6, rfl, ht, hd, hw6⟩
              obtain ⟨v9, hO9⟩ := (HO5.out _).went hd (Nat.le_refl _) (fun j g hj hg => by have h1 := HO.out.mid.st.le; rwa [List.getElem?_append_left (by omega)] at hg) (fun g hg => (List.mem_append.1 hg).elim Or.inl (fun hg => Or.inr (by simp only [List.mem_singleton] at hg; subst hg; exact hw6)))
              have hb7 : Below w6.heap.size w6 (w6.alloc (.cells #[.int .i64 0, .int .i64 0, .slice none 0 0, .bool false, .bool false, .int .i64 0] TT)) := (Below.refl _ _).alloc (Nat.le_refl _) _
              have HR := Lib.hid (hO9.later hb7)
              obtain ⟨v10, -, htn, -⟩ := hd
              have hxb := (htn.block wr.heap.size (by rw [World.size_alloc]; omega) (by have := HO.out.mid.st.lp; omega) (fun e => by have := HO.out.mid.st.fs.lt _ e.symm; omega)).trans (heap_alloc_new wr (.cells #[.int .i64 0, .int .i64 1, .int .i64 f.n, .slice f.a f.ws.length f.c] TA))
              have e0 := cell_of_row _ _ 0 _ _ _ ((Below.heap_alloc w6 (.cells #[.int .i64 0, .int .i64 0, .slice none 0 0, .bool false, .bool false, .int .i64 0] TT) wr.heap.size (by have := htn.size; rw [World.size_alloc] at this; omega)).trans hxb)
              have hyb := heap_alloc_new w6 (.cells #[.int .i64 0, .int .i64 0, .slice none 0 0, .bool false, .bool false, .int .i64 0] TT)
              have s0 := cell_of_row _ _ 0 _ _ _ hyb
              have s1 := cell_of_row _ _ 1 _ _ _ hyb
              have s2 := cell_of_row _ _ 2 _ _ _ hyb
              have s3 := cell_of_row _ _ 3 _ _ _ hyb
              have s4 := cell_of_row _ _ 4 _ _ _ hyb
              have s5 := cell_of_row _ _ 5 _ _ _ hyb
              clear hw6 ht htn hxb hyb hO9 hb7 q0 q1 q2 q3
              try clear hg5
              go_wp2_with fail
              go_roundw
              case rel => exact ⟨k + 1, _, _, _, by omega, by go_num, HR.out⟩
              case measure => simp [RowKit.intOf]; omega
            · have HF := Lib.hid hfit
              go_wp2_with fail
              refine (do_push_out p left 4096 v8 L8 1 f.n f.a f.c f.ws _ (HO5.out _).mid.st (by have := HWL.out; omega) (by have := HF.out; omega)).mono ?_
              rintro e w6 ⟨rfl, hd⟩
              obtain ⟨v9, hO9⟩ := (HO5.out _).went hd (Nat.le_refl _) (fun j g hj hg => hg) (fun g hg => Or.inl hg)
              have hb7 : Below w6.heap.size w6 (w6.alloc (.cells #[.int .i64 0, .int .i64 0, .slice none 0 0, .bool false, .bool false, .int .i64 13] TT)) := (Below.refl _ _).alloc (Nat.le_refl _) _
              have HR := Lib.hid (hO9.later hb7)
              obtain ⟨v10, -, htn, -⟩ := hd
              have hxb := (htn.block wr.heap.size (by rw [World.size_alloc]; omega) (by have := HO.out.mid.st.lp; omega) (fun e => by have := HO.out.mid.st.fs.lt _ e.symm; omega)).trans (heap_alloc_new wr (.cells #[.int .i64 0, .int .i64 1, .int .i64 f.n, .slice f.a f.ws.length f.c] TA))
              have e0 := cell_of_row _ _ 0 _ _ _ ((Below.heap_alloc w6 (.cells #[.int .i64 0, .int .i64 0, .slice none 0 0, .bool false, .bool false, .int .i64 13] TT) wr.heap.size (by have := htn.size; rw [World.size_alloc] at this; omega)).trans hxb)
              have hyb := heap_alloc_new w6 (.cells #[.int .i64 0, .int .i64 0, .slice none 0 0, .bool false, .bool false, .int .i64 13] TT)
              have s0 := cell_of_row _ _ 0 _ _ _ hyb
              have s1 := cell_of_row _ _ 1 _ _ _ hyb
              have s2 := cell_of_row _ _ 2 _ _ _ hyb
              have s3 := cell_of_row _ _ 3 _ _ _ hyb
              have s4 := cell_of_row _ _ 4 _ _ _ hyb
              have s5 := cell_of_row _ _ 5 _ _ _ hyb
              clear htn hxb hyb hO9 hb7 q0 q1 q2 q3
              try clear hg5
              go_wp2_with fail
              go_roundw
              case rel => exact ⟨k + 1, _, _, _, by omega, by go_num, HR.out⟩
              case measure => simp [RowKit.intOf]; omega
          by_cases hx1 : x = 1
          · subst hx1
            rcases List.eq_nil_or_concat L8 with hL | ⟨M, g, hL⟩
            · subst hL
              go_wp2_with fail
              refine (do_pop_none p left 4096 v8 1 f.n f.a f.c f.ws _ (HO5.out _).mid.st).mono ?_
              rintro e w6 ⟨rfl, hd⟩
              obtain ⟨v9, hO9⟩ := (HO5.out _).went hd (Nat.le_refl _) (fun j g hj hg => hg) (fun g hg => Or.inl hg)
              have hb7 : Below w6.heap.size w6 (w6.alloc (.cells #[.int .i64 0, .int .i64 0, .slice none 0 0, .bool false, .bool false, .int .i64 0] TT)) := (Below.refl _ _).alloc (Nat.le_refl _) _
              have HR := Lib.hid (hO9.later hb7)
              obtain ⟨v10, -, htn, -⟩ := hd
              have hxb := (htn.block wr.heap.size (by rw [World.size_alloc]; omega) (by have := HO.out.mid.st.lp; omega) (fun e => by have := HO.out.mid.st.fs.lt _ e.symm; omega)).trans (heap_alloc_new wr (.cells #[.int .i64 1, .int .i64 1, .int .i64 f.n, .slice f.a f.ws.length f.c] TA))
              have e0 := cell_of_row _ _ 0 _ _ _ ((Below.heap_alloc w6 (.cells #[.int .i64 0, .int .i64 0, .slice none 0 0, .bool false, .bool false, .int .i64 0] TT) wr.heap.size (by have := htn.size; rw [World.size_alloc] at this; omega)).trans hxb)
              have hyb := heap_alloc_new w6 (.cells #[.int .i64 0, .int .i64 0, .slice none 0 0, .bool false, .bool false, .int .i64 0] TT)
              have s0 := cell_of_row _ _ 0 _ _ _ hyb
              have s1 := cell_of_row _ _ 1 _ _ _ hyb
              have s2 := cell_of_row _ _ 2 _ _ _ hyb
              have s3 := cell_of_row _ _ 3 _ _ _ hyb
              have s4 := cell_of_row _ _ 4 _ _ _ hyb
              have s5 := cell_of_row _ _ 5 _ _ _ hyb
              clear htn hxb hyb hO9 hb7 q0 q1 q2 q3
              try clear hg5
              go_wp2_with fail
              go_roundw
              case rel => exact ⟨k + 1, _, _, _, by omega, by go_num, HR.out⟩
              case measure => simp [RowKit.intOf]; omega
            · rw [List.concat_eq_append] at hL
              subst hL
              have hle := HO.out.mid.st.le
              simp only [List.length_append, List.length_singleton] at hle
              by_cases hfr : left = M.length + 1
              · subst hfr
                obtain ⟨xx, hxx, hk7, hn7, hw7⟩ := HO.out.next (f := g) (by simp)
                obtain ⟨gk, gn, gws, ga, gc⟩ := g
                simp only at hk7 hn7 hw7
                subst hk7 hn7 hw7
                have HXX := Lib.hid hxx
                clear hxx
                go_wp2_with fail
                refine (do_pop_some p (M.length + 1) 4096 v8 M ⟨7, (M.length : Int), [xx], ga, gc⟩ 1 f.n f.a f.c f.ws _ (HO5.out _).mid.st).mono ?_
                rintro e w6 ⟨g5, rfl, hg5, hd⟩
                obtain ⟨v9, hO9⟩ := (HO5.out _).went (L' := M) (left' := M.length) (by rwa [show min (M.length + 1) M.length = M.length by omega] at hd) (Nat.le_succ _) (fun j h hj hh => by rw [List.getElem?_append_left hj]; exact hh) (fun h hh => Or.inl (List.mem_append.2 (Or.inl hh)))
                have hb7 : Below w6.heap.size w6 (w6.alloc (.cells #[.int .i64 7, .int .i64 (M.length : Int), .slice (some ⟨g5, 0, none⟩) 1 1, .bool true, .bool true, .int .i64 0] TT)) := (Below.refl _ _).alloc (Nat.le_refl _) _
                have HR7 := Lib.hid (And.intro (hO9.later hb7) (hg5.move (K' := fun y => y = g5) (fun y hy hk => ⟨hk, hb7.block y hy⟩) hb7.size))
                obtain ⟨v10, -, htn, -⟩ := hd
                have hxb := (htn.block wr.heap.size (by rw [World.size_alloc]; omega) (by have := HO.out.mid.st.lp; omega) (fun e => by have := HO.out.mid.st.fs.lt _ e.symm; omega)).trans (heap_alloc_new wr (.cells #[.int .i64 1, .int .i64 1, .int .i64 f.n, .slice f.a f.ws.length f.c] TA))
                have e0 := cell_of_row _ _ 0 _ _ _ ((Below.heap_alloc w6 (.cells #[.int .i64 7, .int .i64 (M.length : Int), .slice (some ⟨g5, 0, none⟩) 1 1, .bool true, .bool true, .int .i64 0] TT) wr.heap.size (by have := htn.size; rw [World.size_alloc] at this; omega)).trans hxb)
                have hyb := heap_alloc_new w6 (.cells #[.int .i64 7, .int .i64 (M.length : Int), .slice (some ⟨g5, 0, none⟩) 1 1, .bool true, .bool true, .int .i64 0] TT)
                have s0 := cell_of_row _ _ 0 _ _ _ hyb
                have s1 := cell_of_row _ _ 1 _ _ _ hyb
                have s2 := cell_of_row _ _ 2 _ _ _ hyb
                have s3 := cell_of_row _ _ 3 _ _ _ hyb
                have s4 := cell_of_row _ _ 4 _ _ _ hyb
                have s5 := cell_of_row _ _ 5 _ _ _ hyb
                have hdt : decide (M.length < M.length + 1) = true := decide_eq_true (Nat.lt_succ_self _)
                rw [hdt]
                clear htn hxb hyb hO9 hb7 hg5 q0 q1 q2 q3
                go_wp2_with fail
                refine (note_any w.heap.size bt gt M.length g5 a0 c0 fr xx (fun _ => True) _ HR7.out.1.cb (HA.out.2.2.1.move (fun g hg _ => ⟨trivial, HR7.out.1.mid.below.block g hg⟩) HR7.out.1.mid.below.size) HXX.out HR7.out.1.ct (by have h := HR7.out.1.tl (M.length) (List.getElem?_eq_some_iff.1 HXX.out).1; have e1 : tval (M.length + 1) (M.length) = 0 := (by unfold tval; rw [if_pos (by omega)]); rw [e1] at h; exact h) (HR7.out.1.fz _) HR7.out.2 HA.out.2.2.2 HR7.out.1.nt).mono ?_
                rintro e w9 ⟨rfl, W8, hb8, hw9⟩
                have HR := Lib.hid (show Once w p v9 (M) (M.length) (M.length) fr w.heap.size bt gt a0 c0 w9 by rw [hw9]; exact (HR7.out.1.later hb8).note)
                clear hb8 hw9 HR7
                go_wp2_with fail
                go_roundw
                case rel => exact ⟨k + 1, _, _, _, by omega, by go_num, HR.out⟩
                case measure => simp [RowKit.intOf]; omega
              · have hle' : left ≤ M.length := by omega
                go_wp2_with fail
                refine (do_pop_some p left 4096 v8 M g 1 f.n f.a f.c f.ws _ (HO5.out _).mid.st).mono ?_
                rintro e w6 ⟨g5, rfl, hg5, hd⟩
                obtain ⟨v9, hO9⟩ := (HO5.out _).went (L' := M) (left' := left) (by rwa [show min left M.length = left by omega] at hd) (Nat.le_refl _) (fun j h hj hh => by rw [List.getElem?_append_left (by omega)]; exact hh) (fun h hh => Or.inl (List.mem_append.2 (Or.inl hh)))
                have hb7 : Below w6.heap.size w6 (w6.alloc (.cells #[.int .i64 g.k, .int .i64 g.n, .slice (some ⟨g5, 0, none⟩) g.ws.length g.ws.length, .bool false, .bool true, .int .i64 0] TT)) := (Below.refl _ _).alloc (Nat.le_refl _) _
                have HR := Lib.hid (hO9.later hb7)
                obtain ⟨v10, -, htn, -⟩ := hd
                have hxb := (htn.block wr.heap.size (by rw [World.size_alloc]; omega) (by have := HO.out.mid.st.lp; omega) (fun e => by have := HO.out.mid.st.fs.lt _ e.symm; omega)).trans (heap_alloc_new wr (.cells #[.int .i64 1, .int .i64 1, .int .i64 f.n, .slice f.a f.ws.length f.c] TA))
                have e0 := cell_of_row _ _ 0 _ _ _ ((Below.heap_alloc w6 (.cells #[.int .i64 g.k, .int .i64 g.n, .slice (some ⟨g5, 0, none⟩) g.ws.length g.ws.length, .bool false, .bool true, .int .i64 0] TT) wr.heap.size (by have := htn.size; rw [World.size_alloc] at this; omega)).trans hxb)
                have hyb := heap_alloc_new w6 (.cells #[.int .i64 g.k, .int .i64 g.n, .slice (some ⟨g5, 0, none⟩) g.ws.length g.ws.length, .bool false, .bool true, .int .i64 0] TT)
                have s0 := cell_of_row _ _ 0 _ _ _ hyb
                have s1 := cell_of_row _ _ 1 _ _ _ hyb
                have s2 := cell_of_row _ _ 2 _ _ _ hyb
                have s3 := cell_of_row _ _ 3 _ _ _ hyb
                have s4 := cell_of_row _ _ 4 _ _ _ hyb
                have s5 := cell_of_row _ _ 5 _ _ _ hyb
                have hdt : decide (M.length < left) = false := decide_eq_false (by omega)
                rw [hdt]
                clear htn hxb hyb hO9 hb7 q0 q1 q2 q3
                try clear hg5
                go_wp2_with fail
                go_roundw
                case rel => exact ⟨k + 1, _, _, _, by omega, by go_num, HR.out⟩
                case measure => simp [RowKit.intOf]; omega
          by_cases hx2 : x = 2
          · subst hx2
            rcases List.eq_nil_or_concat L8 with hL | ⟨M, g, hL⟩
            · subst hL
              go_wp2_with fail
              refine (do_top_none p left 4096 v8 1 f.n f.a f.c f.ws _ (HO5.out _).mid.st).mono ?_
              rintro e w6 ⟨rfl, hd⟩
              obtain ⟨v9, hO9⟩ := (HO5.out _).went hd (Nat.le_refl _) (fun j g hj hg => hg) (fun g hg => Or.inl hg)
              have hb7 : Below w6.heap.size w6 (w6.alloc (.cells #[.int .i64 0, .int .i64 0, .slice none 0 0, .bool false, .bool false, .int .i64 0] TT)) := (Below.refl _ _).alloc (Nat.le_refl _) _
              have HR := Lib.hid (hO9.later hb7)
              obtain ⟨v10, -, htn, -⟩ := hd
              have hxb := (htn.block wr.heap.size (by rw [World.size_alloc]; omega) (by have := HO.out.mid.st.lp; omega) (fun e => by have := HO.out.mid.st.fs.lt _ e.symm; omega)).trans (heap_alloc_new wr (.cells #[.int .i64 2, .int .i64 1, .int .i64 f.n, .slice f.a f.ws.length f.c] TA))
              have e0 := cell_of_row _ _ 0 _ _ _ ((Below.heap_alloc w6 (.cells #[.int .i64 0, .int .i64 0, .slice none 0 0, .bool false, .bool false, .int .i64 0] TT) wr.heap.size (by have := htn.size; rw [World.size_alloc] at this; omega)).trans hxb)
              have hyb := heap_alloc_new w6 (.cells #[.int .i64 0, .int .i64 0, .slice none 0 0, .bool false, .bool false, .int .i64 0] TT)
              have s0 := cell_of_row _ _ 0 _ _ _ hyb
              have s1 := cell_of_row _ _ 1 _ _ _ hyb
              have s2 := cell_of_row _ _ 2 _ _ _ hyb
              have s3 := cell_of_row _ _ 3 _ _ _ hyb
              have s4 := cell_of_row _ _ 4 _ _ _ hyb
              have s5 := cell_of_row _ _ 5 _ _ _ hyb
              clear htn hxb hyb hO9 hb7 q0 q1 q2 q3
              try clear hg5
              go_wp2_with fail
              go_roundw
              case rel => exact ⟨k + 1, _, _, _, by omega, by go_num, HR.out⟩
              case measure => simp [RowKit.intOf]; omega
            · have hgl : L8[M.length]? = some g := by rw [hL]; simp
              have hgl2 : L8.length = M.length + 1 := by rw [hL]; simp
              have HGL := Lib.hid (And.intro hgl hgl2)
              clear hgl hgl2 hL
              go_wp2_with fail
              refine (do_top_some p left 4096 v8 L8 g M.length 1 f.n f.a f.c f.ws _ (HO5.out _).mid.st HGL.out.1 HGL.out.2).mono ?_
              rintro e w6 ⟨g5, rfl, hg5, hd⟩
              obtain ⟨v9, hO9⟩ := (HO5.out _).went hd (Nat.le_refl _) (fun j g hj hg => hg) (fun g hg => Or.inl hg)
              have hb7 : Below w6.heap.size w6 (w6.alloc (.cells #[.int .i64 g.k, .int .i64 g.n, .slice (some ⟨g5, 0, none⟩) g.ws.length g.ws.length, .bool false, .bool true, .int .i64 0] TT)) := (Below.refl _ _).alloc (Nat.le_refl _) _
              have HR := Lib.hid (hO9.later hb7)
              obtain ⟨v10, -, htn, -⟩ := hd
              have hxb := (htn.block wr.heap.size (by rw [World.size_alloc]; omega) (by have := HO.out.mid.st.lp; omega) (fun e => by have := HO.out.mid.st.fs.lt _ e.symm; omega)).trans (heap_alloc_new wr (.cells #[.int .i64 2, .int .i64 1, .int .i64 f.n, .slice f.a f.ws.length f.c] TA))
              have e0 := cell_of_row _ _ 0 _ _ _ ((Below.heap_alloc w6 (.cells #[.int .i64 g.k, .int .i64 g.n, .slice (some ⟨g5, 0, none⟩) g.ws.length g.ws.length, .bool false, .bool true, .int .i64 0] TT) wr.heap.size (by have := htn.size; rw [World.size_alloc] at this; omega)).trans hxb)
              have hyb := heap_alloc_new w6 (.cells #[.int .i64 g.k, .int .i64 g.n, .slice (some ⟨g5, 0, none⟩) g.ws.length g.ws.length, .bool false, .bool true, .int .i64 0] TT)
              have s0 := cell_of_row _ _ 0 _ _ _ hyb
              have s1 := cell_of_row _ _ 1 _ _ _ hyb
              have s2 := cell_of_row _ _ 2 _ _ _ hyb
              have s3 := cell_of_row _ _ 3 _ _ _ hyb
              have s4 := cell_of_row _ _ 4 _ _ _ hyb
              have s5 := cell_of_row _ _ 5 _ _ _ hyb
              clear htn hxb hyb hO9 hb7 q0 q1 q2 q3
              try clear hg5
              go_wp2_with fail
              go_roundw
              case rel => exact ⟨k + 1, _, _, _, by omega, by go_num, HR.out⟩
              case measure => simp [RowKit.intOf]; omega
          cases left with
          | zero =>
            rcases (show x < 0 ∨ (¬ x < 0 ∧ 3 < x) by omega) with hn | ⟨hn, hp3⟩
            · skip
              go_wp2_with fail
              refine (do_scan_none p 4096 v8 L8 x 1 f.n f.a f.c f.ws _ (HO5.out _).mid.st hx0 hx1 hx2 hx3).mono ?_
              rintro e w6 ⟨rfl, hd⟩
              obtain ⟨v9, hO9⟩ := (HO5.out _).went hd (Nat.le_refl _) (fun j g hj hg => hg) (fun g hg => Or.inl hg)
              have hb7 : Below w6.heap.size w6 (w6.alloc (.cells #[.int .i64 0, .int .i64 0, .slice none 0 0, .bool false, .bool false, .int .i64 0] TT)) := (Below.refl _ _).alloc (Nat.le_refl _) _
              have HR := Lib.hid (hO9.later hb7)
              obtain ⟨v10, -, htn, -⟩ := hd
              have hxb := (htn.block wr.heap.size (by rw [World.size_alloc]; omega) (by have := HO.out.mid.st.lp; omega) (fun e => by have := HO.out.mid.st.fs.lt _ e.symm; omega)).trans (heap_alloc_new wr (.cells #[.int .i64 x, .int .i64 1, .int .i64 f.n, .slice f.a f.ws.length f.c] TA))
              have e0 := cell_of_row _ _ 0 _ _ _ ((Below.heap_alloc w6 (.cells #[.int .i64 0, .int .i64 0, .slice none 0 0, .bool false, .bool false, .int .i64 0] TT) wr.heap.size (by have := htn.size; rw [World.size_alloc] at this; omega)).trans hxb)
              have hyb := heap_alloc_new w6 (.cells #[.int .i64 0, .int .i64 0, .slice none 0 0, .bool false, .bool false, .int .i64 0] TT)
              have s0 := cell_of_row _ _ 0 _ _ _ hyb
              have s1 := cell_of_row _ _ 1 _ _ _ hyb
              have s2 := cell_of_row _ _ 2 _ _ _ hyb
              have s3 := cell_of_row _ _ 3 _ _ _ hyb
              have s4 := cell_of_row _ _ 4 _ _ _ hyb
              have s5 := cell_of_row _ _ 5 _ _ _ hyb
              clear htn hxb hyb hO9 hb7 q0 q1 q2 q3
              try clear hg5
              go_wp2_with fail
              go_roundw
              case rel => exact ⟨k + 1, _, _, _, by omega, by go_num, HR.out⟩
              case measure => simp [RowKit.intOf]; omega
            · skip
              go_wp2_with fail
              refine (do_scan_none p 4096 v8 L8 x 1 f.n f.a f.c f.ws _ (HO5.out _).mid.st hx0 hx1 hx2 hx3).mono ?_
              rintro e w6 ⟨rfl, hd⟩
              obtain ⟨v9, hO9⟩ := (HO5.out _).went hd (Nat.le_refl _) (fun j g hj hg => hg) (fun g hg => Or.inl hg)
              have hb7 : Below w6.heap.size w6 (w6.alloc (.cells #[.int .i64 0, .int .i64 0, .slice none 0 0, .bool false, .bool false, .int .i64 0] TT)) := (Below.refl _ _).alloc (Nat.le_refl _) _
              have HR := Lib.hid (hO9.later hb7)
              obtain ⟨v10, -, htn, -⟩ := hd
              have hxb := (htn.block wr.heap.size (by rw [World.size_alloc]; omega) (by have := HO.out.mid.st.lp; omega) (fun e => by have := HO.out.mid.st.fs.lt _ e.symm; omega)).trans (heap_alloc_new wr (.cells #[.int .i64 x, .int .i64 1, .int .i64 f.n, .slice f.a f.ws.length f.c] TA))
              have e0 := cell_of_row _ _ 0 _ _ _ ((Below.heap_alloc w6 (.cells #[.int .i64 0, .int .i64 0, .slice none 0 0, .bool false, .bool false, .int .i64 0] TT) wr.heap.size (by have := htn.size; rw [World.size_alloc] at this; omega)).trans hxb)
              have hyb := heap_alloc_new w6 (.cells #[.int .i64 0, .int .i64 0, .slice none 0 0, .bool false, .bool false, .int .i64 0] TT)
              have s0 := cell_of_row _ _ 0 _ _ _ hyb
              have s1 := cell_of_row _ _ 1 _ _ _ hyb
              have s2 := cell_of_row _ _ 2 _ _ _ hyb
              have s3 := cell_of_row _ _ 3 _ _ _ hyb
              have s4 := cell_of_row _ _ 4 _ _ _ hyb
              have s5 := cell_of_row _ _ 5 _ _ _ hyb
              clear htn hxb hyb hO9 hb7 q0 q1 q2 q3
              try clear hg5
              go_wp2_with fail
              go_roundw
              case rel => exact ⟨k + 1, _, _, _, by omega, by go_num, HR.out⟩
              case measure => simp [RowKit.intOf]; omega
          | succ j =>
            have hle := HO.out.mid.st.le
            obtain ⟨g, hgl⟩ : ∃ g, L8[j]? = some g := ⟨_, List.getElem?_eq_getElem (by omega)⟩
            obtain ⟨xx, hxx, hk7, hn7, hw7⟩ := HO.out.next hgl
            obtain ⟨gk, gn, gws, ga, gc⟩ := g
            simp only at hk7 hn7 hw7
            subst hk7 hn7 hw7
            have HXX := Lib.hid hxx
            have HGL := Lib.hid hgl
            clear hxx hgl
            rcases (show x < 0 ∨ (¬ x < 0 ∧ 3 < x) by omega) with hn | ⟨hn, hp3⟩
            · skip
              go_wp2_with fail
              refine (do_scan_some p 4096 v8 L8 ⟨7, (j : Int), [xx], ga, gc⟩ j x 1 f.n f.a f.c f.ws _ (HO5.out _).mid.st hx0 hx1 hx2 hx3 HGL.out).mono ?_
              rintro e w6 ⟨g5, rfl, hg5, hd⟩
              obtain ⟨v9, hO9⟩ := (HO5.out _).went hd (Nat.le_succ _) (fun i h hi hh => hh) (fun h hh => Or.inl hh)
              have hb7 : Below w6.heap.size w6 (w6.alloc (.cells #[.int .i64 7, .int .i64 (j : Int), .slice (some ⟨g5, 0, none⟩) 1 1, .bool false, .bool true, .int .i64 0] TT)) := (Below.refl _ _).alloc (Nat.le_refl _) _
              have HR7 := Lib.hid (And.intro (hO9.later hb7) (hg5.move (K' := fun y => y = g5) (fun y hy hk => ⟨hk, hb7.block y hy⟩) hb7.size))
              obtain ⟨v10, -, htn, -⟩ := hd
              have hxb := (htn.block wr.heap.size (by rw [World.size_alloc]; omega) (by have := HO.out.mid.st.lp; omega) (fun e => by have := HO.out.mid.st.fs.lt _ e.symm; omega)).trans (heap_alloc_new wr (.cells #[.int .i64 x, .int .i64 1, .int .i64 f.n, .slice f.a f.ws.length f.c] TA))
              have e0 := cell_of_row _ _ 0 _ _ _ ((Below.heap_alloc w6 (.cells #[.int .i64 7, .int .i64 (j : Int), .slice (some ⟨g5, 0, none⟩) 1 1, .bool false, .bool true, .int .i64 0] TT) wr.heap.size (by have := htn.size; rw [World.size_alloc] at this; omega)).trans hxb)
              have hyb := heap_alloc_new w6 (.cells #[.int .i64 7, .int .i64 (j : Int), .slice (some ⟨g5, 0, none⟩) 1 1, .bool false, .bool true, .int .i64 0] TT)
              have s0 := cell_of_row _ _ 0 _ _ _ hyb
              have s1 := cell_of_row _ _ 1 _ _ _ hyb
              have s2 := cell_of_row _ _ 2 _ _ _ hyb
              have s3 := cell_of_row _ _ 3 _ _ _ hyb
              have s4 := cell_of_row _ _ 4 _ _ _ hyb
              have s5 := cell_of_row _ _ 5 _ _ _ hyb
              clear htn hxb hyb hO9 hb7 hg5 q0 q1 q2 q3
              go_wp2_with fail
              refine (note_any w.heap.size bt gt j g5 a0 c0 fr xx (fun _ => True) _ HR7.out.1.cb (HA.out.2.2.1.move (fun g hg _ => ⟨trivial, HR7.out.1.mid.below.block g hg⟩) HR7.out.1.mid.below.size) HXX.out HR7.out.1.ct (by have h := HR7.out.1.tl (j) (List.getElem?_eq_some_iff.1 HXX.out).1; have e1 : tval (j + 1) (j) = 0 := (by unfold tval; rw [if_pos (by omega)]); rw [e1] at h; exact h) (HR7.out.1.fz _) HR7.out.2 HA.out.2.2.2 HR7.out.1.nt).mono ?_
              rintro e w9 ⟨rfl, W8, hb8, hw9⟩
              have HR := Lib.hid (show Once w p v9 (L8) (j) (j) fr w.heap.size bt gt a0 c0 w9 by rw [hw9]; exact (HR7.out.1.later hb8).note)
              clear hb8 hw9 HR7
              go_wp2_with fail
              go_roundw
              case rel => exact ⟨k + 1, _, _, _, by omega, by go_num, HR.out⟩
              case measure => simp [RowKit.intOf]; omega
            · skip
              go_wp2_with fail
              refine (do_scan_some p 4096 v8 L8 ⟨7, (j : Int), [xx], ga, gc⟩ j x 1 f.n f.a f.c f.ws _ (HO5.out _).mid.st hx0 hx1 hx2 hx3 HGL.out).mono ?_
              rintro e w6 ⟨g5, rfl, hg5, hd⟩
              obtain ⟨v9, hO9⟩ := (HO5.out _).went hd (Nat.le_succ _) (fun i h hi hh => hh) (fun h hh => Or.inl hh)
              have hb7 : Below w6.heap.size w6 (w6.alloc (.cells #[.int .i64 7, .int .i64 (j : Int), .slice (some ⟨g5, 0, none⟩) 1 1, .bool false, .bool true, .int .i64 0] TT)) := (Below.refl _ _).alloc (Nat.le_refl _) _
              have HR7 := Lib.hid (And.intro (hO9.later hb7) (hg5.move (K' := fun y => y = g5) (fun y hy hk => ⟨hk, hb7.block y hy⟩) hb7.size))
              obtain ⟨v10, -, htn, -⟩ := hd
              have hxb := (htn.block wr.heap.size (by rw [World.size_alloc]; omega) (by have := HO.out.mid.st.lp; omega) (fun e => by have := HO.out.mid.st.fs.lt _ e.symm; omega)).trans (heap_alloc_new wr (.cells #[.int .i64 x, .int .i64 1, .int .i64 f.n, .slice f.a f.ws.length f.c] TA))
              have e0 := cell_of_row _ _ 0 _ _ _ ((Below.heap_alloc w6 (.cells #[.int .i64 7, .int .i64 (j : Int), .slice (some ⟨g5, 0, none⟩) 1 1, .bool false, .bool true, .int .i64 0] TT) wr.heap.size (by have := htn.size; rw [World.size_alloc] at this; omega)).trans hxb)
              have hyb := heap_alloc_new w6 (.cells #[.int .i64 7, .int .i64 (j : Int), .slice (some ⟨g5, 0, none⟩) 1 1, .bool false, .bool true, .int .i64 0] TT)
              have s0 := cell_of_row _ _ 0 _ _ _ hyb
              have s1 := cell_of_row _ _ 1 _ _ _ hyb
              have s2 := cell_of_row _ _ 2 _ _ _ hyb
              have s3 := cell_of_row _ _ 3 _ _ _ hyb
              have s4 := cell_of_row _ _ 4 _ _ _ hyb
              have s5 := cell_of_row _ _ 5 _ _ _ hyb
              clear htn hxb hyb hO9 hb7 hg5 q0 q1 q2 q3
              go_wp2_with fail
              refine (note_any w.heap.size bt gt j g5 a0 c0 fr xx (fun _ => True) _ HR7.out.1.cb (HA.out.2.2.1.move (fun g hg _ => ⟨trivial, HR7.out.1.mid.below.block g hg⟩) HR7.out.1.mid.below.size) HXX.out HR7.out.1.ct (by have h := HR7.out.1.tl (j) (List.getElem?_eq_some_iff.1 HXX.out).1; have e1 : tval (j + 1) (j) = 0 := (by unfold tval; rw [if_pos (by omega)]); rw [e1] at h; exact h) (HR7.out.1.fz _) HR7.out.2 HA.out.2.2.2 HR7.out.1.nt).mono ?_
              rintro e w9 ⟨rfl, W8, hb8, hw9⟩
              have HR := Lib.hid (show Once w p v9 (L8) (j) (j) fr w.heap.size bt gt a0 c0 w9 by rw [hw9]; exact (HR7.out.1.later hb8).note)
              clear hb8 hw9 HR7
              go_wp2_with fail
              go_roundw
              case rel => exact ⟨k + 1, _, _, _, by omega, by go_num, HR.out⟩
              case measure => simp [RowKit.intOf]; omega
        · obtain rfl : k = len := by omega
          go_wp2_with fail
          go_loopw [14] (fun s14 wq => ∃ (v : Value) (L : List Fr) (left : Nat), s14 = s14 ∧ Once w p v L left left fr w.heap.size bt gt a0 c0 wq) (fun _ wq => (RowKit.intOf ((wq.cell? ⟨p, 3, none⟩).getD (.int .i64 0))).toNat)
          case atStart => exact ⟨v8, L8, left, rfl, HO.out⟩
          case round =>
            clear HO
            obtain ⟨v8, L8, left, -, hO⟩ := hrel
            have c3 := hO.mid.st.c3
            have HO := Lib.hid hO
            clear hO
            cases left with
            | zero =>
              go_wp2_with fail
              refine (left_any p 0 4096 v8 L8 _ HO.out.mid.st).mono ?_
              rintro e w8 ⟨rfl, rfl⟩
              have ct := HO.out.ct
              clear c3
              go_wp2_with fail
              go_loopw [17] (fun s17 wq => ∃ j : Nat, j ≤ fr.length ∧ s17 = .int .i64 j ∧ Once w p v8 L8 0 0 fr w.heap.size bt gt a0 c0 wq) (fun s17 _ => fr.length - (RowKit.intOf s17).toNat)
              case atStart => exact ⟨0, Nat.zero_le _, rfl, HO.out⟩
              case round =>
                clear HO ct
                obtain ⟨j, hj, rfl, hO⟩ := hrel
                have ct := hO.ct
                by_cases hlt : j < fr.length
                · have tj := hO.tl j hlt
                  have e1 : tval 0 j = 1 := by unfold tval; rw [if_neg (Nat.not_lt_zero _)]
                  rw [e1] at tj
                  have HO := Lib.hid hO
                  clear hO e1
                  go_wp2_with fail
                  go_roundw
                  case rel => exact ⟨j + 1, by omega, by go_num, HO.out⟩
                  case measure => simp [RowKit.intOf]; omega
                · obtain rfl : j = fr.length := by omega
                  have HO := Lib.hid hO
                  clear hO
                  go_wp2_with fail
                  refine (scan_none p 4096 v8 L8 _ HO.out.mid.st).mono ?_
                  rintro e w9 ⟨rfl, hb9⟩
                  have HB9 := Lib.hid ((HO.out.mid.below.trans (hb9.mono HO.out.mid.below.size)).alloc (by have := HO.out.mid.below.size; have := hb9.size; omega) (.cells #[.int .i64 0, .int .i64 0, .slice none 0 0] TF))
                  clear hb9
                  go_wp2_with fail
                  go_ret
                  exact ⟨rfl, HB9.out⟩
            | succ j =>
              have hle := HO.out.mid.st.le
              have hjf : j < 9223372036854775807 := by have := HO.out.mid.st.small; omega
              obtain ⟨g, hgl⟩ : ∃ g, L8[j]? = some g := ⟨_, List.getElem?_eq_getElem (by omega)⟩
              obtain ⟨xx, hxx, hk7, hn7, hw7⟩ := HO.out.next hgl
              obtain ⟨gk, gn, gws, ga, gc⟩ := g
              simp only at hk7 hn7 hw7
              subst hk7 hn7 hw7
              have HXX := Lib.hid hxx
              have HGL := Lib.hid hgl
              clear hxx hgl hle
              go_wp2_with fail
              refine (left_any p (j + 1) 4096 v8 L8 _ HO.out.mid.st).mono ?_
              rintro e w8 ⟨rfl, rfl⟩
              go_wp2_with fail
              refine (left_any p (j + 1) 4096 v8 L8 _ HO.out.mid.st).mono ?_
              rintro e w9 ⟨rfl, rfl⟩
              go_wp2_with fail
              refine (scan_some p j 4096 v8 L8 ⟨7, (j : Int), [xx], ga, gc⟩ _ HO.out.mid.st HGL.out).mono ?_
              rintro e w6 ⟨u, rfl, ⟨g5, rfl, hg5, -, -, -⟩, hk⟩
              obtain ⟨v9, hO9⟩ := HO.out.went hk.did (Nat.le_succ _) (fun i h hi hh => hh) (fun h hh => Or.inl hh)
              have hb7 : Below w6.heap.size w6 (w6.alloc (.cells #[.int .i64 7, .int .i64 (j : Int), .slice (some ⟨g5, 0, none⟩) 1 1] TF)) := (Below.refl _ _).alloc (Nat.le_refl _) _
              have hyb := heap_alloc_new w6 (.cells #[.int .i64 7, .int .i64 (j : Int), .slice (some ⟨g5, 0, none⟩) 1 1] TF)
              have s0 := cell_of_row _ _ 0 _ _ _ hyb
              have s1 := cell_of_row _ _ 1 _ _ _ hyb
              have s2 := cell_of_row _ _ 2 _ _ _ hyb
              have HR7 := Lib.hid (And.intro (hO9.later hb7) (hg5.move (K' := fun y => y = g5) (fun y hy hk => ⟨hk, hb7.block y hy⟩) hb7.size))
              clear hk hO9 hb7 hg5 hyb c3
              go_wp2_with fail
              refine (note_any w.heap.size bt gt j g5 a0 c0 fr xx (fun _ => True) _ HR7.out.1.cb (HA.out.2.2.1.move (fun g hg _ => ⟨trivial, HR7.out.1.mid.below.block g hg⟩) HR7.out.1.mid.below.size) HXX.out HR7.out.1.ct (by have h := HR7.out.1.tl j (List.getElem?_eq_some_iff.1 HXX.out).1; have e1 : tval (j + 1) j = 0 := (by unfold tval; rw [if_pos (by omega)]); rw [e1] at h; exact h) (HR7.out.1.fz _) HR7.out.2 HA.out.2.2.2 HR7.out.1.nt).mono ?_
              rintro e w9 ⟨rfl, W8, hb8, hw9⟩
              have HR := Lib.hid (show Once w p v9 L8 j j fr w.heap.size bt gt a0 c0 w9 by rw [hw9]; exact (HR7.out.1.later hb8).note)
              clear hb8 hw9 HR7
              go_wp2_with fail
              refine (left_any p j 4096 v9 L8 _ HR.out.mid.st).mono ?_
              rintro e w10 ⟨rfl, rfl⟩
              go_wp2_with fail
              go_roundw
              case rel => exact ⟨_, _, j, trivial, HR.out⟩
              case measure =>
                have e1 := HR.out.mid.st.c3
                have e2 := HO.out.mid.st.c3
                simp [e1, e2, RowKit.intOf]

theorem once_walk (fr : List Int) (a0 : Option Addr) (c0 : Nat) (a1 : Option Addr) (len cap : Nat) (X : Nat → Int) (F : Nat → Fr) (w : World) (hfr : WAt (fun _ => True) w ⟨0, 0, fr, a0, c0⟩) (hA : Acts w a1 len X F) :
    Calls Try.prog 4 #[.slice a0 fr.length c0, .slice a1 len cap] w fun e w' => e = .returned (.bool true) ∧ Below w.heap.size w w' := by
  by_cases h : fr.length ≤ 60 ∧ Few len F
  · exact once_in fr a0 c0 a1 len cap X F w hfr hA h.1 h.2
  · exact once_out fr a0 c0 a1 len cap X F w hfr hA h

end Go.Proofs.Ytalfhcmccdnajaa
