import Derived.WalkMore
import Derived.Deep.QuietTactic
import Derived.BigQuiet
import Derived.Test.YtbnmmbjajheedaaGreatDoorMg2
namespace Go.Proofs.YtbnmmbjajheedaaGreatDoor
set_option maxHeartbeats 64000000
set_option maxRecDepth 100000
open Go.RowKit Go.Lib
inductive Res where
 | good (l : List (Tk × Int))
 | bad (e line : Int)
def lexA : Nat → List UInt8 → Int → List (Tk × Int) → Res
 | 0, _, _, acc => .good acc
 | _ + 1, [], _, acc => .good acc
 | n + 1, c :: r, line, acc =>
  if c = 10 then lexA n r (line + 1) acc
  else if c = 9 ∨ c = 13 ∨ c = 32 then lexA n r line acc
  else if hasPrefix (c :: r) [45, 45] = true then
   (if indexByte (c :: r) 10 < 0 then .good acc else lexA n ((c :: r).drop (indexByte (c :: r) 10).toNat) line acc)
  else if (readL (c :: r)).2 = 0 then
   (if acc.length = 4096 then .bad 2 line else lexA n ((c :: r).drop (readL (c :: r)).1.t.length) line (acc ++ [((readL (c :: r)).1, line)]))
  else .bad (readL (c :: r)).2 line
def lexL (l : List UInt8) : Res := lexA (l.length + 1) l 1 []
theorem word_one (c : UInt8) : wordF [c] = none := by simp [wordF, kput]
theorem word_nil : kindF [] = none := by
 simp [kindF, kputs, wordF, kput]
theorem kind_run (c : UInt8) (h : inRun c = false) : kindF [c] = none := by
 have nm : ∀ (l : List UInt8), (∀ x, x ∈ l → inRun x = true) → ∀ (f : List UInt8 → Option Int) u, kputs f l u [c] = f [c] := fun l hl f u => by
  unfold kputs
  rw [if_neg]
  rintro ⟨x, hx, e⟩
  simp only [List.cons.injEq, and_true] at e
  subst e
  rw [hl _ hx] at h
  cases h
 unfold kindF
 rw [nm _ (by decide), nm _ (by decide), nm _ (by decide), word_one]
theorem run_nil {c : UInt8} {r : List UInt8} (h : runL (c :: r) = []) : inRun c = false := by
 unfold runL at h
 rw [List.takeWhile_cons] at h
 cases g : inRun c with
 | false => rfl
 | true => rw [g] at h; simp at h
theorem kindOf_nil {c : UInt8} {r : List UInt8} (h : runL (c :: r) = []) : kindOf (c :: r) = 0 := by
 unfold kindOf
 rw [h, word_nil]
 simp [kind_run c (run_nil h)]
theorem numT_ok {t : List UInt8} (h : (numT t).2 = 0) : (numT t).1.t = t := by
 unfold numT at *
 split
 ·rfl
 ·rename_i g
  rw [if_neg g] at h
  exact absurd h g
theorem sign_pos : ∀ x, x ∈ signsB → 1 ≤ x.1.data.toList.length := by decide
theorem sign_some {l : List UInt8} {x : ByteArray × Int} (h : signL l = some x) : 1 ≤ x.1.data.toList.length ∧ x.1.data.toList.length ≤ l.length := by
 unfold signL at h
 have h1 := List.mem_of_find?_eq_some h
 have h2 := List.find?_some h
 refine ⟨sign_pos x h1, ?_⟩
 unfold hasPrefix at h2
 exact (List.isPrefixOf_iff_prefix.1 h2).length_le
theorem read_len {c : UInt8} {r : List UInt8} (h : (readL (c :: r)).2 = 0) : 1 ≤ (readL (c :: r)).1.t.length ∧ (readL (c :: r)).1.t.length ≤ (c :: r).length := by
 have hm : 1 ≤ (markedL (c :: r)).length ∧ (markedL (c :: r)).length ≤ (c :: r).length := by
  unfold markedL
  have h1 := trimP_le ((c :: r).drop 1) [45]
  simp only [List.drop_succ_cons, List.drop_zero] at h1
  rw [List.length_take]
  simp only [List.length_cons, List.drop_succ_cons, List.drop_zero]
  omega
 have hr := run_le (c :: r)
 unfold readL at *
 cases hs : signL (c :: r) with
 | some x => exact sign_some hs
 | none =>
  rw [hs] at h
  simp only at h ⊢
  split at h
  ·rename_i g
   rw [if_pos g, numT_ok h]
   exact hm
  ·rename_i g
   rw [if_neg g]
   unfold readR at *
   split at h
   ·cases h
   ·rename_i g0
    rw [if_neg g0]
    have hne : runL (c :: r) ≠ [] := fun e => g0 (kindOf_nil e)
    have hpos : 1 ≤ (runL (c :: r)).length := by
     cases hh : runL (c :: r) with
     | nil => exact absurd hh hne
     | cons a b => simp
    split at h
    ·rename_i g3
     rw [if_pos g3, numT_ok h]
     exact ⟨hpos, hr⟩
    ·rename_i g3
     rw [if_neg g3]
     split at h
     ·cases h
     ·rename_i g16
      rw [if_neg g16]
      exact ⟨hpos, hr⟩
theorem index_le : ∀ (l : List UInt8) (c : UInt8), indexByte l c ≤ l.length ∧ -1 ≤ indexByte l c ∧ (indexByte l c < 0 → indexByte l c = -1) ∧ (indexByte l c = l.length → l = [] ∨ indexByte l c = -1)
 | [], c => ⟨by simp [indexByte], by simp [indexByte], fun _ => by simp [indexByte], fun _ => Or.inl rfl⟩
 | b :: l, c => by
  obtain ⟨h1, h2, h3, h4⟩ := index_le l c
  unfold indexByte
  by_cases g : (b == c) = true
  ·rw [if_pos g]
   simp only [List.length_cons]
   refine ⟨by omega, by omega, fun h => by omega, fun h => by omega⟩
  ·rw [if_neg g]
   by_cases g2 : (indexByte l c == -1) = true
   ·rw [if_pos g2]
    simp only [List.length_cons]
    refine ⟨by omega, by omega, fun h => by trivial, fun h => Or.inr (by trivial)⟩
   ·rw [if_neg g2]
    have g3 : indexByte l c ≠ -1 := by simpa using g2
    simp only [List.length_cons]
    refine ⟨by omega, by omega, fun h => by omega, fun h => ?_⟩
    rcases h4 (by omega) with e | e
    ·subst e
     simp [indexByte] at g3
    ·exact absurd e g3
theorem ba_of {b : ByteArray} {l : List UInt8} (h : b.data.toList = l) : b = ⟨l.toArray⟩ := by
 subst h
 cases b
 simp
def flatT : List (Tk × Int) → List Value
 | [] => []
 | x :: r => [.int .i64 x.1.k, .string ⟨x.1.t.toArray⟩, .bool x.1.f, .int .u64 x.1.x, .int .i64 x.2] ++ flatT r
theorem flatT_append (a b : List (Tk × Int)) : flatT (a ++ b) = flatT a ++ flatT b := by
 induction a with
 | nil => rfl
 | cons x a ih => simp only [List.cons_append, flatT, ih, List.append_assoc]
theorem Tryz.info_token : (Tryz.prog.info? 41).map (fun i => (i.zero, i.size, i.bytes)) = some (some (.agg #[.int .i64 0, .string ⟨#[]⟩, .bool false, .int .u64 0, .int .i64 0]), 5, 48) := by kernel_rfl
theorem info_parts {P : Program} {e : TypeId} {z : Value} {n b : Nat} (h : (P.info? e).map (fun i => (i.zero, i.size, i.bytes)) = some (some z, n, b)) : ∃ i, P.info? e = some i ∧ i.zero = some z ∧ i.size = n ∧ i.bytes = b := by
 cases hi : P.info? e with
 | none => rw [hi] at h; cases h
 | some i =>
  rw [hi] at h
  simp only [Option.map_some, Option.some.injEq, Prod.mk.injEq] at h
  exact ⟨i, rfl, h.1, h.2.1, h.2.2⟩
def ReaderSaid (w : World) (e : Ending) (w' : World) : Prop :=
 ∃ b kb, e = .returned (.func (.func 68) #[] #[.pointer (some ⟨b, 0, none⟩)]) ∧ w'.cell? ⟨b, 0, none⟩ = some (.map (some kb)) ∧ KMap w' kb 72 kindF ∧ Below w.heap.size w w'
theorem reader_any (w : World) : Calls Tryz.prog 29 #[] w (ReaderSaid w) := by
 go_enter Tryz.func29, Tryz.ntmps29
 go_wp2_with fail
 refine (kinds_any w).mono ?_
 rintro e w2 ⟨kb, rfl, hk, hm, hb⟩
 have hx := (Below.refl w2.heap.size w2).alloc Nr (.cells #[.map (some kb)] 117)
 have HB := Hd (Ai (hm.later hx) (onB' hb hx))
 clear hk hm hb hx
 go_wp2_with fail
 go_ret
 exact ⟨w2.heap.size, kb, rfl, by simp [go_sem], HB.out.1, HB.out.2⟩
theorem letter_at (s : ByteArray) (k : Nat) (hk : k < s.size) (w : World) : (Instr.index 9 (.string s) (.int .i64 (k : Int))).run Tryz.prog w = .ok (.int .u8 (s.data.toList.getD k 0).toNat) w := by
 rw [run_index_string w 9 s .i64 _ Tryz.underlying9, dif_pos (by omega)]
 have hz := Lib.size_eq s
 have e : s[((k : Int)).toNat]'(by omega) = s.data.toList.getD k 0 := by
  simp only [Int.toNat_natCast]
  rw [List.getD, List.getElem?_eq_getElem (by omega)]
  rfl
 rw [e]
def LexSaid (R : Res) (w : World) (e : Ending) (w' : World) : Prop :=
 Below w.heap.size w w' ∧ match R with
 | .good T => ∃ a n c, e = .returned (.tuple #[.slice a n c, .int .i64 0, .int .i64 0]) ∧ w'.ownsRow w.heap.size 41 5 (.slice a n c) T.length (flatT T)
 | .bad k line => e = .returned (.tuple #[.slice none 0 0, .int .i64 k, .int .i64 line])
def blanksB : ByteArray := ⟨#[9, 13, 32]⟩
theorem blank_iff (c : UInt8) : (0 ≤ indexByte blanksB.data.toList c) ↔ (c = 9 ∨ c = 13 ∨ c = 32) := by
 simp only [blanksB, indexByte]
 by_cases h1 : c = 9
 ·subst h1; decide
 ·by_cases h2 : c = 13
  ·subst h2; decide
  ·by_cases h3 : c = 32
   ·subst h3; decide
   ·have e1 : ((9 : UInt8) == c) = false := by simpa using Ne.symm h1
    have e2 : ((13 : UInt8) == c) = false := by simpa using Ne.symm h2
    have e3 : ((32 : UInt8) == c) = false := by simpa using Ne.symm h3
    simp [e1, e2, e3, h1, h2, h3]
theorem own_same {base : Nat} {e : TypeId} {size : Nat} {v : Value} {n : Nat} {xs : List Value} {W W' : World} (h : W.ownsRow base e size v n xs) (hk : ∀ g, v.ownBlock = some g → W'.heap[g]? = W.heap[g]?) : W'.ownsRow base e size v n xs := by
 refine ⟨h.1, ?_⟩
 rcases h.2 with e | ⟨g, cap, cur, rfl, hg, hb, hr⟩
 ·exact Or.inl e
 ·exact Or.inr ⟨g, cap, cur, rfl, hg, (hk g rfl).trans hb, hr⟩
theorem own_base {base base' : Nat} {e : TypeId} {size : Nat} {v : Value} {n : Nat} {xs : List Value} {W : World} (h : W.ownsRow base e size v n xs) (hb : base' ≤ base) : W.ownsRow base' e size v n xs := by
 refine ⟨h.1, ?_⟩
 rcases h.2 with e | ⟨g, cap, cur, rfl, hg, hr⟩
 ·exact Or.inl e
 ·exact Or.inr ⟨g, cap, cur, rfl, Nt hb hg, hr⟩
theorem own_below {base : Nat} {e : TypeId} {size : Nat} {v : Value} {n : Nat} {xs : List Value} {W W' : World} (h : W.ownsRow base e size v n xs) (hb : Below W.heap.size W W') : W'.ownsRow base e size v n xs :=
 own_same h fun g hg => hb.block g (h.lt g hg).2
theorem index_pos {c : UInt8} {r : List UInt8} (h : c ≠ 10) : indexByte (c :: r) 10 < 0 ∨ 1 ≤ indexByte (c :: r) 10 := by
 obtain ⟨h1, h2, h3, h4⟩ := index_le r 10
 unfold indexByte
 have e : (c == 10) = false := by simpa using h
 rw [e]
 simp only [Bool.false_eq_true, if_false]
 by_cases g2 : (indexByte r 10 == -1) = true
 ·rw [if_pos g2]
  exact Or.inl (by decide)
 ·rw [if_neg g2]
  have g3 : indexByte r 10 ≠ -1 := by simpa using g2
  exact Or.inr (by omega)
theorem read_tk (s : ByteArray) (hs : s.size ≤ 140737488355328) (h1 : 1 ≤ s.size) (b kb : Nat) (w : World) (hR : Rd b kb w) (k : Int) (t : List UInt8) (f : Bool) (x err : Int) (hn : readL s.data.toList = (⟨k, t, f, x⟩, err)) :
  Calls Tryz.prog 68 #[.string s, .pointer (some ⟨b, 0, none⟩)] w fun e w' => ∃ b : ByteArray, e = .returned (.tuple #[.agg #[.int .i64 k, .string b, .bool f, .int .u64 x, .int .i64 0], .int .i64 err]) ∧ b.data.toList = t ∧ Below w.heap.size w w' := by
 refine (read_any s hs h1 b kb w hR).mono ?_
 rw [hn]
 rintro e w' ⟨b, he, hb, h⟩
 exact ⟨b, he, hb, h⟩
theorem byte_back (c : UInt8) : ((c.toNat : Int)).toNat.toUInt8 = c := by simp
theorem lex_any (s : ByteArray) (hs : s.size ≤ 140737488355328) (w : World) (hS : SG w) (hE : EE w) : Calls Tryz.prog 16 #[.string s] w (LexSaid (lexL s.data.toList) w) := by
 obtain ⟨i0, hi0, hz0, hzs, hzb⟩ := info_parts Tryz.info_token
 have HSE := Hd (Ai hS hE)
 clear hS hE
 go_enter Tryz.func16, Tryz.ntmps16
 go_wp2_with fail
 go_step3
 go_wp2_with fail
 refine (reader_any w).mono ?_
 rintro e W ⟨b, kb, rfl, hm, hk, hb⟩
 have HR := Hd (show Rd b kb W ∧ Below w.heap.size w W from ⟨⟨hm, hk, HSE.out.1.below hb, HSE.out.2.below hb⟩, hb⟩)
 clear hm hk hb HSE
 go_wp2_with fail
 go_step3
 go_wp2_with fail
 have hsz := size_eq s
 have HF0 := Hd (show lexA (s.size + 1) (s.data.toList.drop 0) 1 [] = lexL s.data.toList from by unfold lexL; rw [hsz, List.drop_zero])
 clear hsz
 go_loopw [6, 7, 8] (fun s6 s7 s8 wr => ∃ (k : Nat) (line : Int) (acc : List (Tk × Int)) (vv : Value) (f : Nat), k ≤ s.size ∧ vv = s6 ∧ s7 = .int .i64 k ∧ s8 = .int .i64 line ∧ s.size - k < f ∧ lexA f (s.data.toList.drop k) line acc = lexL s.data.toList ∧ wr.ownsRow W.heap.size 41 5 vv acc.length (flatT acc) ∧ Below W.heap.size W wr ∧ Rd b kb wr ∧ 0 ≤ line ∧ line ≤ 1 + k ∧ acc.length ≤ 4096) (fun _ s7 _ _ => s.size - (RowKit.intOf s7).toNat)
 case atStart => exact ⟨0, 1, [], _, s.size + 1, Nat.zero_le _, rfl, rfl, rfl, by omega, HF0.out, World.ownsRow_nil _ _ _ _, Below.refl _ _, HR.out.1, by omega, by omega, by simp⟩
 case round =>
  clear HF0
  obtain ⟨k, line, acc, vv, f, hk, rfl, rfl, rfl, hf, hR, hown, hbw, hrd, hl0, hl1, hacc⟩ := hrel
  have HQ := Hd (Ai hR (Ai hown (Ai hbw hrd)))
  clear hR hown hbw hrd
  by_cases hlt : k < s.size
  ·have hlt' : (k : Int) < (s.size : Int) := by omega
   have hsz := size_eq s
   obtain ⟨c, r, hcr⟩ : ∃ c r, s.data.toList.drop k = c :: r := by
    rw [List.drop_eq_getElem_cons (by omega)]
    exact ⟨_, _, rfl⟩
   have hrl : r.length + 1 = s.size - k := by
    have := congrArg List.length hcr
    rw [List.length_drop, ← hsz] at this
    simp only [List.length_cons] at this
    omega
   have hrt : r = s.data.toList.drop (k + 1) := by
    have := congrArg List.tail hcr
    rw [List.tail_drop] at this
    exact this.symm
   obtain ⟨g, rfl⟩ : ∃ g, f = g + 1 := ⟨f - 1, by omega⟩
   have hstep := HQ.out.1
   rw [hcr] at hstep
   unfold lexA at hstep
   obtain ⟨d, hd⟩ : ∃ d : ByteArray, s.extract k s.size = d := ⟨_, rfl⟩
   have hdl : d.data.toList = c :: r := by rw [← hd, tail_list, hcr]
   have hdz : d.size = s.size - k := by rw [size_eq, hdl, List.length_cons, hrl]
   have h0 : 0 < d.size := by omega
   have hc0 : d[0]'h0 = c := by
    have : d.data.toList[0]? = some (d[0]'h0) := List.getElem?_eq_getElem (by simpa using h0)
    rw [hdl] at this
    simpa using this.symm
   have HST := Hd (Ai hstep (Ai hdl (Ai hdz (Ai hrl (Ai hrt hcr)))))
   clear hstep hdl hrl hrt hcr hsz hdz
   have b1 : (0 : Int) ≤ (k : Int) := by omega
   have b2 : (k : Int) ≤ (s.size : Int) := by omega
   have el : IntKind.i64.wrap (line + 1) = line + 1 := by rw [IntKind.wrap_i64]; omega
   have ek : IntKind.i64.wrap ((k : Int) + 1) = (k : Int) + 1 := by rw [IntKind.wrap_i64]; omega
   by_cases c10 : c = 10
   ·have f10 : ((c.toNat : Int) == 10) = true := by subst c10; rfl
    have hnx := HST.out.1
    rw [if_pos c10, HST.out.2.2.2.2.1] at hnx
    have HN := Hd hnx
    clear hnx c10
    go_wp2_with fail
    exact ⟨⟨k + 1, line + 1, acc, vv, g, by omega, rfl, by go_num, rfl, by omega, HN.out, HQ.out.2.1, HQ.out.2.2.1, HQ.out.2.2.2, by omega, by omega, hacc⟩, by simp [RowKit.intOf]; omega⟩
   ·have f10 : ((c.toNat : Int) == 10) = false := by
     have : c.toNat ≠ 10 := fun e => c10 (UInt8.toNat_inj.1 (by rw [e]; rfl))
     simp
     omega
    have hnx := HST.out.1
    rw [if_neg c10] at hnx
    have HN := Hd hnx
    have HIB := Hd (fun W => Tryz.strings_IndexByte blanksB (c.toNat : Int) W)
    have hbk := byte_back c
    rw [hbk] at HIB
    have HBI := Hd (blank_iff c)
    have HC10 := Hd c10
    clear hnx hbk c10
    go_wp2_with fail
    refine (HIB.out wr).mono ?_
    rintro e w5 ⟨rfl, rfl⟩
    by_cases cb : c = 9 ∨ c = 13 ∨ c = 32
    ·have fb : decide (0 ≤ indexByte blanksB.data.toList c) = true := decide_eq_true (HBI.out.2 cb)
     have hn2 := HN.out
     rw [if_pos cb, HST.out.2.2.2.2.1] at hn2
     have HN2 := Hd hn2
     clear hn2 cb
     generalize indexByte blanksB.data.toList c = ib at *
     go_wp2_with fail
     exact ⟨⟨k + 1, line, acc, vv, g, by omega, rfl, by go_num, rfl, by omega, HN2.out, HQ.out.2.1, HQ.out.2.2.1, HQ.out.2.2.2, by omega, by omega, hacc⟩, by simp [RowKit.intOf]; omega⟩
    ·have fb : decide (0 ≤ indexByte blanksB.data.toList c) = false := decide_eq_false (fun h => cb (HBI.out.1 h))
     have hn2 := HN.out
     rw [if_neg cb] at hn2
     have HN2 := Hd hn2
     clear hn2 cb HN HBI
     generalize indexByte blanksB.data.toList c = ib at *
     have HPR := Hd (fun W => Tryz.strings_HasPrefix d ⟨#[45, 45]⟩ W)
     go_wp2_with fail
     refine (HPR.out w5).mono ?_
     rintro e w6 ⟨rfl, rfl⟩
     rw [HST.out.2.1]
     cases hpp : hasPrefix (c :: r) [45, 45] with
     | true =>
      have hn3 := HN2.out
      rw [if_pos hpp] at hn3
      have HN3 := Hd hn3
      have HI2 := Hd (fun W => Tryz.strings_IndexByte d 10 W)
      have hil := index_le (c :: r) 10
      have hip := index_pos (r := r) HC10.out
      clear hn3 hpp HN2
      go_wp2_with fail
      refine (HI2.out w6).mono ?_
      rintro e w7 ⟨rfl, rfl⟩
      rw [HST.out.2.1]
      rw [show ((10 : Int).toNat.toUInt8) = (10 : UInt8) from rfl]
      obtain ⟨i1, i2, i3, -⟩ := hil
      simp only [List.length_cons] at i1
      rw [HST.out.2.2.2.1] at i1
      generalize indexByte (c :: r) 10 = ix at *
      by_cases hix : ix < 0
      ·have fix : decide (ix < 0) = true := decide_eq_true hix
       have hgd := HN3.out
       rw [if_pos hix] at hgd
       have HGD := Hd hgd
       obtain ⟨aa, nn, cc, hvv⟩ : ∃ a n c, vv = .slice a n c := by
        rcases HQ.out.2.1.2 with ⟨e, _⟩ | ⟨g, cap, cur, e, _⟩
        ·exact ⟨_, _, _, e⟩
        ·exact ⟨_, _, _, e⟩
       subst hvv
       clear hgd hix hip
       go_wp2_with fail
       refine bodyPost_ret (v := .tuple #[.slice aa nn cc, .int .i64 0, .int .i64 0]) (by simp [results, Tryz.results16, go_sem]) rfl ?_
       rw [← HGD.out]
       exact ⟨onB' HR.out.2 HQ.out.2.2.1, aa, nn, cc, rfl, own_base HQ.out.2.1 HR.out.2.size⟩
      ·have fix : decide (ix < 0) = false := decide_eq_false hix
       have hgd := HN3.out
       rw [if_neg hix, ← HST.out.2.2.2.2.2, List.drop_drop] at hgd
       have HGD := Hd hgd
       obtain ⟨q, rfl⟩ : ∃ q : Nat, ix = q := ⟨ix.toNat, by omega⟩
       have eq1 : IntKind.i64.wrap ((k : Int) + (q : Int)) = (k : Int) + q := by rw [IntKind.wrap_i64]; omega
       clear hgd hix i2 i3
       go_wp2_with fail
       exact ⟨⟨k + q, line, acc, vv, g, by omega, rfl, by go_num, rfl, by omega, by have := HGD.out; simpa using this, HQ.out.2.1, HQ.out.2.2.1, HQ.out.2.2.2, by omega, by omega, hacc⟩, by simp [RowKit.intOf]; omega⟩
     | false =>
      have hn3 := HN2.out
      rw [if_neg (by rw [hpp]; decide)] at hn3
      obtain ⟨⟨kd, tx, ff, xx⟩, er, hrd⟩ : ∃ t er, readL (c :: r) = (t, er) := ⟨_, _, rfl⟩
      rw [hrd] at hn3
      have hlen : er = 0 → 1 ≤ tx.length ∧ tx.length ≤ s.size - k := fun e => by
       have := read_len (c := c) (r := r) (by rw [hrd]; exact e)
       rw [hrd] at this
       simp only [List.length_cons] at this
       rw [HST.out.2.2.2.1] at this
       exact this
      have HN3 := Hd hn3
      have HRA := Hd (read_tk d (by have := HST.out.2.2.1; omega) (by omega) b kb w6 HQ.out.2.2.2 kd tx ff xx er (by rw [HST.out.2.1]; exact hrd))
      have HLN := Hd hlen
      clear hn3 hpp HN2 hrd hlen
      go_wp2_with fail
      refine HRA.out.mono ?_
      rintro e w7 ⟨bb, rfl, hbb, hb⟩
      have hx := (Below.refl w7.heap.size w7).alloc Nr (.cells #[.int .i64 kd, .string bb, .bool ff, .int .u64 xx, .int .i64 0] 41)
      have c0 : (w7.alloc (.cells #[.int .i64 kd, .string bb, .bool ff, .int .u64 xx, .int .i64 0] 41)).cell? ⟨w7.heap.size, 0, none⟩ = some (.int .i64 kd) := by simp [go_sem]
      have c1 : (w7.alloc (.cells #[.int .i64 kd, .string bb, .bool ff, .int .u64 xx, .int .i64 0] 41)).cell? ⟨w7.heap.size, 1, none⟩ = some (.string bb) := by simp [go_sem]
      have c2 : (w7.alloc (.cells #[.int .i64 kd, .string bb, .bool ff, .int .u64 xx, .int .i64 0] 41)).cell? ⟨w7.heap.size, 2, none⟩ = some (.bool ff) := by simp [go_sem]
      have c3 : (w7.alloc (.cells #[.int .i64 kd, .string bb, .bool ff, .int .u64 xx, .int .i64 0] 41)).cell? ⟨w7.heap.size, 3, none⟩ = some (.int .u64 xx) := by simp [go_sem]
      have c4 : (w7.alloc (.cells #[.int .i64 kd, .string bb, .bool ff, .int .u64 xx, .int .i64 0] 41)).cell? ⟨w7.heap.size, 4, none⟩ = some (.int .i64 0) := by simp [go_sem]
      have cz : ∀ j, (w7.alloc (.cells #[.int .i64 kd, .string bb, .bool ff, .int .u64 xx, .int .i64 0] 41)).frozen? ⟨w7.heap.size, j, none⟩ = false := fun j => by simp
      have zs : (w7.alloc (.cells #[.int .i64 kd, .string bb, .bool ff, .int .u64 xx, .int .i64 0] 41)).heap.size = w7.heap.size + 1 := by simp
      have hsw := hb.size
      have H8 := Hd (Ai (onB' (onB' HQ.out.2.2.1 hb) hx) (Ai (own_below (own_below HQ.out.2.1 hb) hx) (Ai ((HQ.out.2.2.2.later hb).later hx) (Ai hbb (own_below HQ.out.2.1 hb)))))
      have hwb := HQ.out.2.2.1.size
      have H7 := Hd (Ai (onB' HQ.out.2.2.1 hb) (Ai (own_below HQ.out.2.1 hb) (HQ.out.2.2.2.later hb)))
      obtain ⟨aa, nn, cc, hvv⟩ : ∃ a n c, vv = .slice a n c := by
       rcases HQ.out.2.1.2 with ⟨e, _⟩ | ⟨g, cap, cur, e, _⟩
       ·exact ⟨_, _, _, e⟩
       ·exact ⟨_, _, _, e⟩
      subst hvv
      obtain rfl : nn = acc.length := by
       rcases HQ.out.2.1.2 with ⟨e, e2⟩ | ⟨g, cap, cur, e, _⟩
       ·cases e; exact e2.symm
       ·cases e; rfl
      clear hb hx hbb
      by_cases g0 : er = 0
      ·subst g0
       have hl2 := HLN.out rfl
       by_cases g4 : acc.length = 4096
       ·have f4 : ((acc.length : Int) == 4096) = true := by rw [g4]; rfl
        have hgd := HN3.out
        rw [if_pos (by trivial), if_pos g4] at hgd
        have HGD := Hd hgd
        clear hgd g4
        go_upto_region 7 with fail
        generalize (w7.alloc (.cells #[.int .i64 kd, .string bb, .bool ff, .int .u64 xx, .int .i64 0] 41)) = W8 at *
        go_wp2_with fail
        refine bodyPost_ret (v := .tuple #[.slice none 0 0, .int .i64 2, .int .i64 line]) (by simp [results, Tryz.results16, go_sem]) rfl ?_
        rw [← HGD.out]
        exact ⟨onB' HR.out.2 H8.out.1, rfl⟩
       ·have f4 : ((acc.length : Int) == 4096) = false := by simp; omega
        have hgd := HN3.out
        rw [if_pos (by trivial), if_neg g4, ← HST.out.2.2.2.2.2, List.drop_drop] at hgd
        have HGD := Hd hgd
        clear hgd
        have hbz : bb.size = tx.length := by rw [size_eq, H8.out.2.2.2.1]
        have eq1 : IntKind.i64.wrap ((k : Int) + (bb.size : Int)) = (k : Int) + (bb.size : Int) := by rw [IntKind.wrap_i64]; omega
        go_upto_region 12 with fail
        have h79 : Below w7.heap.size w7 (w7.alloc (.cells #[.int .i64 kd, .string bb, .bool ff, .int .u64 xx, .int .i64 line] 41)) := (Below.refl w7.heap.size w7).alloc Nr _
        have d0 : (w7.alloc (.cells #[.int .i64 kd, .string bb, .bool ff, .int .u64 xx, .int .i64 line] 41)).cell? ⟨w7.heap.size, 0, none⟩ = some (.int .i64 kd) := by simp [go_sem]
        have d1 : (w7.alloc (.cells #[.int .i64 kd, .string bb, .bool ff, .int .u64 xx, .int .i64 line] 41)).cell? ⟨w7.heap.size, 1, none⟩ = some (.string bb) := by simp [go_sem]
        have d2 : (w7.alloc (.cells #[.int .i64 kd, .string bb, .bool ff, .int .u64 xx, .int .i64 line] 41)).cell? ⟨w7.heap.size, 2, none⟩ = some (.bool ff) := by simp [go_sem]
        have d3 : (w7.alloc (.cells #[.int .i64 kd, .string bb, .bool ff, .int .u64 xx, .int .i64 line] 41)).cell? ⟨w7.heap.size, 3, none⟩ = some (.int .u64 xx) := by simp [go_sem]
        have d4 : (w7.alloc (.cells #[.int .i64 kd, .string bb, .bool ff, .int .u64 xx, .int .i64 line] 41)).cell? ⟨w7.heap.size, 4, none⟩ = some (.int .i64 line) := by simp [go_sem]
        have z9 : (w7.alloc (.cells #[.int .i64 kd, .string bb, .bool ff, .int .u64 xx, .int .i64 line] 41)).heap.size = w7.heap.size + 1 := by simp
        have H9 := Hd (Ai (H7.out.1.trans (h79.mono H7.out.1.size)) (Ai (own_below H7.out.2.1 h79) (H7.out.2.2.later h79)))
        have h7w := H7.out.1.size
        have hne : some w7.heap.size ≠ (Value.slice aa acc.length cc).ownBlock := fun e => by
         have := (H7.out.2.1.lt _ e.symm).2
         omega
        have hbt := Hd (ba_of H8.out.2.2.2.1)
        have HTX := Hd H8.out.2.2.2.1
        clear h79 H8 c0 c1 c2 c3 c4 cz
        have z9' := Nat.le_of_eq z9.symm
        clear z9 zs
        generalize (w7.alloc (.cells #[.int .i64 kd, .string bb, .bool ff, .int .u64 xx, .int .i64 line] 41)) = W9 at *
        have m9 : acc.length + 1 ≤ maxLen := by unfold maxLen; omega
        have m48 : (acc.length + 1) * 48 ≤ 140737488355328 := by omega
        have one5 : ∀ y ∈ [Value.int .i64 kd, .string bb, .bool ff, .int .u64 xx, .int .i64 line], y.oneCell' = true := by intro y hy; simp at hy; rcases hy with rfl | rfl | rfl | rfl | rfl <;> rfl
        go_upto_region 13 with (at_builtin; refine wpList_append_lies _ rfl _ _ 34 rfl W.heap.size 41 i0 (.agg #[.int .i64 0, .string ⟨#[]⟩, .bool false, .int .u64 0, .int .i64 0]) 5 48 Tryz.underlying34 hi0 hz0 hzs hzb rfl (by decide) (.slice aa acc.length cc) acc.length (flatT acc) rfl (H9.out.2.1.alloc _) ⟨W9.heap.size, 0, none⟩ 1 1 [.int .i64 kd, .string bb, .bool ff, .int .u64 xx, .int .i64 line] rfl rfl (World.news_of_block (heap_alloc_new _ _)) one5 (by decide) m9 m48 (by simp; omega) _ rfl ?_; intro g9 cap9 w11 o1 o2 o3 o4)
        have hxx := (Below.refl W9.heap.size W9).alloc Nr (.cells #[.int .i64 kd, .string bb, .bool ff, .int .u64 xx, .int .i64 line] 41)
        have hob : ∀ g, (Value.slice aa acc.length cc).ownBlock = some g → W.heap.size ≤ g := fun g hg => (H7.out.2.1.lt g hg).1
        have hB11 : Below W.heap.size W w11 := by
         have h0 := onB' H9.out.1 hxx
         have hs0 := H9.out.1.size
         exact ⟨o2.os.trans h0.os, o2.tape.trans h0.tape, o2.output.trans h0.output, Nt h0.size o2.size, fun q hq => (o2.block q (by have := h0.size; omega) (fun e => by have := hob q e.symm; omega)).trans (h0.block q hq)⟩
        have hR11 : Rd b kb w11 := HR.out.1.later hB11
        have e1 := o2.cell (later' hxx d1) (by simpa using hne)
        have HO := Hd (Ai o1 (Ai hB11 hR11))
        clear o1 o2 o3 o4 hB11 hR11 hxx hob H9 H7
        go_wp2_with fail
        refine ⟨⟨k + bb.size, line, acc ++ [(⟨kd, tx, ff, xx⟩, line)], _, g, by omega, rfl, by go_num, rfl, by omega, by have := HGD.out; rw [← hbz] at this; simpa using this, ?_, HO.out.2.1, HO.out.2.2, by omega, by omega, by simp; omega⟩, by simp [RowKit.intOf]; omega⟩
        rw [flatT_append]
        have hlen : (acc ++ [((⟨kd, tx, ff, xx⟩ : Tk), line)]).length = acc.length + 1 := by simp
        rw [hlen]
        have := HO.out.1
        rw [hbt.out] at this
        exact this
      ·have f0 : (er == 0) = false := by simpa using g0
       have f1 : (er != 0) = true := by simpa using g0
       have hgd := HN3.out
       rw [if_neg g0] at hgd
       have HGD := Hd hgd
       clear hgd
       go_upto_region 7 with fail
       generalize (w7.alloc (.cells #[.int .i64 kd, .string bb, .bool ff, .int .u64 xx, .int .i64 0] 41)) = W8 at *
       go_wp2_with fail
       refine bodyPost_ret (v := .tuple #[.slice none 0 0, .int .i64 er, .int .i64 line]) (by simp [results, Tryz.results16, go_sem]) rfl ?_
       rw [← HGD.out]
       exact ⟨onB' HR.out.2 H8.out.1, rfl⟩
  ·obtain rfl : k = s.size := by omega
   have hgd : lexL s.data.toList = .good acc := by
    rw [← HQ.out.1, List.drop_of_length_le (by simp)]
    cases f <;> rfl
   have HGD := Hd hgd
   clear hgd
   obtain ⟨aa, nn, cc, hvv⟩ : ∃ a n c, vv = .slice a n c := by
    rcases HQ.out.2.1.2 with ⟨e, _⟩ | ⟨g, cap, cur, e, _⟩
    ·exact ⟨_, _, _, e⟩
    ·exact ⟨_, _, _, e⟩
   subst hvv
   go_wp2_with fail
   refine bodyPost_ret (v := .tuple #[.slice aa nn cc, .int .i64 0, .int .i64 0]) (by simp [results, Tryz.results16, go_sem]) rfl ?_
   rw [HGD.out]
   exact ⟨onB' HR.out.2 HQ.out.2.2.1, aa, nn, cc, rfl, own_base HQ.out.2.1 HR.out.2.size⟩
def exB : ByteArray := ⟨#[102, 32, 120, 61, 120, 43, 46, 35, 45, 49, 45, 45, 121]⟩
def exT : List (Tk × Int) := [(⟨1, [102], false, 0⟩, 1), (⟨1, [120], false, 0⟩, 1), (⟨6, [61], false, 0⟩, 1), (⟨1, [120], false, 0⟩, 1), (⟨4, [43, 46], false, 0⟩, 1), (⟨3, [35, 45, 49], false, 18446744073709551615⟩, 1)]
theorem num_refl (d : Nat) (f : Bool) (x : Int) (w : World) : (Op.equalIn (d + 2) 39 (.agg #[.bool f, .int .u64 x]) (.agg #[.bool f, .int .u64 x])).run Tryz.prog w = .ok true w := by
 have hf : Tryz.prog.underlying 39 = some (.struct (Tryz.prog.fieldsOf 39)) := by kernel_rfl
 have q1 : ∀ (w : World), (Op.equalIn (d + 1) 4 (.bool f) (.bool f)).run Tryz.prog w = .ok true w := fun w => by simp [Op.equalIn, run_underlying Tryz.underlying4, go_sem]
 have q2 : ∀ (w : World), (Op.equalIn (d + 1) 37 (.int .u64 x) (.int .u64 x)).run Tryz.prog w = .ok true w := fun w => by rw [run_equalIn_int w d 37 .u64 .u64 x x Tryz.underlying37]; simp
 rw [run_equalIn_struct w (d + 1) 39 _ _ hf (by kernel_rfl)]
 generalize hE : Op.equalIn (d + 1) 4 = E at *
 generalize hF : Op.equalIn (d + 1) 37 = F at *
 have p0 : ∀ (w : World), (part 4 #[.bool f, .int .u64 x] 0).run Tryz.prog w = .ok (.bool f) w := by intro w; simp [part, Tryz.isAgg4, go_sem]
 have p1 : ∀ (w : World), (part 37 #[.bool f, .int .u64 x] 1).run Tryz.prog w = .ok (.int .u64 x) w := by intro w; simp [part, Tryz.isAgg37, go_sem]
 have hl : (Tryz.prog.fieldsOf 39).toList = [⟨"Float", 4, 0, false, "", "", 0⟩, ⟨"Bits", 37, 1, false, "", "", 8⟩] := by kernel_rfl
 rw [hl]
 simp [Op.eqFields, hE, hF, p0, p1, q1, q2]
def tokV (k : Int) (b : ByteArray) (f : Bool) (x line : Int) : Array Value := #[.int .i64 k, .string b, .bool f, .int .u64 x, .int .i64 line]
def Res.shift (n : Int) : Res → Res
 | .good T => .good (T.map fun x => (x.1, x.2 + n))
 | .bad e l => .bad e (l + n)
theorem flatT_get : ∀ {T : List (Tk × Int)} {q : Nat} (hq : q < T.length), (flatT T)[q * 5]? = some (.int .i64 (T[q]).1.k) ∧ (flatT T)[q * 5 + 1]? = some (.string ⟨(T[q]).1.t.toArray⟩) ∧ (flatT T)[q * 5 + 2]? = some (.bool (T[q]).1.f) ∧ (flatT T)[q * 5 + 3]? = some (.int .u64 (T[q]).1.x) ∧ (flatT T)[q * 5 + 4]? = some (.int .i64 (T[q]).2)
 | [], q, hq => by cases hq
 | x :: T, 0, _ => ⟨rfl, rfl, rfl, rfl, rfl⟩
 | x :: T, q + 1, hq => by
  obtain ⟨h0, h1, h2, h3, h4⟩ := flatT_get (T := T) (q := q) (by simpa using hq)
  have e : ∀ c, (flatT (x :: T))[(q + 1) * 5 + c]? = (flatT T)[q * 5 + c]? := fun c => by
   rw [show (q + 1) * 5 + c = (q * 5 + c) + 1 + 1 + 1 + 1 + 1 by omega]
   simp [flatT]
  have e0 := e 0
  simp only [Nat.add_zero] at e0
  exact ⟨e0.trans h0, (e 1).trans h1, (e 2).trans h2, (e 3).trans h3, (e 4).trans h4⟩
structure TokAt (W : World) (g : Nat) (j : Nat) (x : Tk × Int) : Prop where
 c0 : W.cell? ⟨g, j * 5, none⟩ = some (.int .i64 x.1.k)
 c1 : W.cell? ⟨g, j * 5 + 1, none⟩ = some (.string ⟨x.1.t.toArray⟩)
 c2 : W.cell? ⟨g, j * 5 + 2, none⟩ = some (.bool x.1.f)
 c3 : W.cell? ⟨g, j * 5 + 3, none⟩ = some (.int .u64 x.1.x)
 c4 : W.cell? ⟨g, j * 5 + 4, none⟩ = some (.int .i64 x.2)
theorem TokAt.later {W W' : World} {g j : Nat} {x : Tk × Int} (h : TokAt W g j x) (hb : Below W.heap.size W W') : TokAt W' g j x := ⟨later' hb h.c0, later' hb h.c1, later' hb h.c2, later' hb h.c3, later' hb h.c4⟩
theorem own_tok {W : World} {base : Nat} {a : Option Addr} {n c : Nat} {T : List (Tk × Int)} (h : W.ownsRow base 41 5 (.slice a n c) T.length (flatT T)) {j : Nat} (hj : j < T.length) : ∃ g, a = some ⟨g, 0, none⟩ ∧ TokAt W g j T[j] := by
 rcases h.2 with ⟨e, e2⟩ | ⟨g, cap, cur, e, -⟩
 ·omega
 ·cases e
  obtain ⟨f0, f1, f2, f3, f4⟩ := flatT_get hj
  have k : ∀ i v, (flatT T)[i]? = some v → W.cell? ⟨g, i, none⟩ = some v := fun i v hv => by
   have := h.cells rfl i v hv
   rw [Addr.add_lit] at this
   simpa using this
  exact ⟨g, rfl, k _ _ f0, k _ _ f1, k _ _ f2, k _ _ f3, k _ _ f4⟩
theorem own_n {W : World} {base : Nat} {a : Option Addr} {n c : Nat} {T : List (Tk × Int)} (h : W.ownsRow base 41 5 (.slice a n c) T.length (flatT T)) : n = T.length := by
 rcases h.2 with ⟨e, e2⟩ | ⟨g, cap, cur, e, -⟩
 ·cases e; exact e2.symm
 ·cases e; rfl
def Bd (B : Int) : Res → Prop
 | .good T => ∀ x, x ∈ T → 0 ≤ x.2 ∧ x.2 ≤ B
 | .bad _ l => 0 ≤ l ∧ l ≤ B
theorem cat_list (a b : ByteArray) : (a ++ b).data.toList = a.data.toList ++ b.data.toList := by simp
theorem LexSaid.view {R : Res} {w w' : World} {e : Ending} (h : LexSaid R w e w') : ∃ (T : List (Tk × Int)) (a : Option Addr) (c : Nat) (er line : Int), e = .returned (.tuple #[.slice a T.length c, .int .i64 er, .int .i64 line]) ∧ w'.ownsRow w.heap.size 41 5 (.slice a T.length c) T.length (flatT T) ∧ Below w.heap.size w w' ∧ ((R = .good T ∧ er = 0 ∧ line = 0) ∨ (R = .bad er line ∧ T = [])) := by
 obtain ⟨hb, h⟩ := h
 cases R with
 | good T =>
  obtain ⟨a, n, c, he, hown⟩ := h
  obtain rfl := own_n hown
  exact ⟨T, a, c, 0, 0, he, hown, hb, Or.inl ⟨rfl, rfl, rfl⟩⟩
 | bad er line => exact ⟨[], none, 0, er, line, h, World.ownsRow_nil _ _ _ _, hb, Or.inr ⟨rfl, rfl⟩⟩
abbrev Nm := List UInt8
abbrev Tok := Tk × Int
abbrev Sh := Int × Nm
def shapeT (y : Tk) : Sh := if y.k = 5 ∨ y.k = 6 then (y.k, y.t) else (y.k, [])
def shapeL : List Tok → Sh
 | [] => (0, [])
 | x :: _ => shapeT x.1
def sName : Sh := (1, [])
def sCon : Sh := (2, [])
def sNum : Sh := (3, [])
def sSign : Sh := (4, [])
def sBack : Sh := (7, [])
def sData : Sh := (5, [100, 97, 116, 97])
def sLet : Sh := (5, [108, 101, 116])
def sIn : Sh := (5, [105, 110])
def sCase : Sh := (5, [99, 97, 115, 101])
def sOf : Sh := (5, [111, 102])
def sOpen : Sh := (6, [40])
def sShut : Sh := (6, [41])
def sCurl : Sh := (6, [123])
def sLruc : Sh := (6, [125])
def sSemi : Sh := (6, [59])
def sEq : Sh := (6, [61])
def sArrow : Sh := (6, [45, 62])
def sLam : Sh := (6, [92])
inductive Ex where
 | mk (kind : Int) (name : Nm) (f : Bool) (x : Int) (params : List Nm) (kids : List Ex) (binds : List (Nm × List Nm × Ex)) (alts : List (Int × Nm × Bool × Int × List Nm × Ex))
abbrev Bnd := Nm × List Nm × Ex
abbrev Alt := Int × Nm × Bool × Int × List Nm × Ex
abbrev Md := List (Nm × Int) × List Bnd
def Ex.leaf (kind : Int) (name : Nm) : Ex := .mk kind name false 0 [] [] [] []
def Ex.num (f : Bool) (x : Int) : Ex := .mk 3 [] f x [] [] [] []
def Ex.withKids : Ex → List Ex → Ex
 | .mk k n f x p _ b a, ks => .mk k n f x p ks b a
inductive Out (α : Type) where
 | ok (a : α) (last : Int) (rest : List Tok)
 | bad (e line : Int)
def Out.bind {α β : Type} (o : Out α) (f : α → Int → List Tok → Out β) : Out β :=
 match o with
 | .ok a l r => f a l r
 | .bad e l => .bad e l
abbrev Par (α : Type) := Int → List Tok → Out α
def refuseO {α : Type} (e : Int) : Par α := fun last rest =>
 match rest with
 | [] => .bad 17 last
 | x :: _ => .bad e x.2
def takeO : Par Tok := fun last rest =>
 match rest with
 | [] => .bad 17 last
 | x :: r => .ok x x.2 r
def wantO (s : Sh) : Par Tok := fun last rest => if shapeL rest = s then takeO last rest else refuseO 3 last rest
def namesO : Int → List Tok → List Nm → List Nm × Int × List Tok
 | last, [], acc => (acc, last, [])
 | last, x :: r, acc => if shapeT x.1 = sName then namesO x.2 r (acc ++ [x.1.t]) else (acc, last, x :: r)
def bindO (ex : Par Ex) : Par Bnd := fun last rest =>
 (wantO sName last rest).bind fun t l r =>
  (wantO sEq (namesO l r []).2.1 (namesO l r []).2.2).bind fun _ l2 r2 =>
   (ex l2 r2).bind fun b l3 r3 => .ok (t.1.t, (namesO l r []).1, b) l3 r3
def moreO {α : Type} (item : Par α) : Nat → List α → Par (List α)
 | 0, acc => fun last rest => .ok acc last rest
 | n + 1, acc => fun last rest =>
  if shapeL rest = sSemi then
   (takeO last rest).bind fun _ l r => (item l r).bind fun a l2 r2 => moreO item n (acc ++ [a]) l2 r2
  else .ok acc last rest
def someO {α : Type} (item : Par α) : Par (List α) := fun last rest =>
 (item last rest).bind fun a l r => moreO item (r.length + 1) [a] l r
def atomShapes : List Sh := [sName, sCon, sNum, sBack, sOpen]
def exprShapes : List Sh := [sLet, sCase, sLam, sName, sCon, sNum, sBack, sOpen]
def innerO (ex : Par Ex) : Par Ex := fun last rest =>
 (wantO sOpen last rest).bind fun _ l r => (ex l r).bind fun x l2 r2 => (wantO sShut l2 r2).bind fun _ l3 r3 => .ok x l3 r3
def atomO (ex : Par Ex) : Par Ex := fun last rest =>
 if shapeL rest = sName then (takeO last rest).bind fun t l r => .ok (.leaf 1 t.1.t) l r
 else if shapeL rest = sCon then (takeO last rest).bind fun t l r => .ok (.leaf 2 t.1.t) l r
 else if shapeL rest = sNum then (takeO last rest).bind fun t l r => .ok (.num t.1.f t.1.x) l r
 else if shapeL rest = sBack then (takeO last rest).bind fun t l r => .ok (.leaf 5 t.1.t) l r
 else if shapeL rest = sOpen then innerO ex last rest
 else refuseO 3 last rest
def atomsO (ex : Par Ex) : Nat → List Ex → Par (List Ex)
 | 0, acc => fun last rest => .ok acc last rest
 | n + 1, acc => fun last rest =>
  if shapeL rest ∈ atomShapes then (atomO ex last rest).bind fun a l r => atomsO ex n (acc ++ [a]) l r
  else .ok acc last rest
def rowE (kids : Bool) (first : Ex) (others : List Ex) : Ex :=
 if kids = true then first.withKids others else if others = [] then first else .mk 4 [] false 0 [] (first :: others) [] []
def rowO (ex : Par Ex) : Par Ex := fun last rest =>
 (atomO ex last rest).bind fun a l r => (atomsO ex (r.length + 1) [] l r).bind fun xs l2 r2 => .ok (rowE (decide (shapeL rest = sCon ∨ shapeL rest = sBack)) a xs) l2 r2
def rowsO (ex : Par Ex) : Par Ex := fun last rest =>
 (rowO ex last rest).bind fun a l r =>
  if shapeL r = sSign then
   (takeO l r).bind fun t l2 r2 => (rowO ex l2 r2).bind fun b l3 r3 => .ok (.mk 5 t.1.t false 0 [] [a, b] [] []) l3 r3
  else .ok a l r
def letO (ex : Par Ex) : Par Ex := fun last rest =>
 (wantO sLet last rest).bind fun _ l r => (someO (bindO ex) l r).bind fun bs l2 r2 => (wantO sIn l2 r2).bind fun _ l3 r3 =>
  (ex l3 r3).bind fun x l4 r4 => .ok (.mk 6 [] false 0 [] [x] bs []) l4 r4
def altO (ex : Par Ex) : Par Alt := fun last rest =>
 if shapeL rest = sCon then
  (takeO last rest).bind fun t l r =>
   (wantO sArrow (namesO l r []).2.1 (namesO l r []).2.2).bind fun _ l2 r2 => (ex l2 r2).bind fun x l3 r3 => .ok (0, t.1.t, false, 0, (namesO l r []).1, x) l3 r3
 else if shapeL rest = sNum then
  (takeO last rest).bind fun t l r => (wantO sArrow l r).bind fun _ l2 r2 => (ex l2 r2).bind fun x l3 r3 => .ok (1, [], t.1.f, t.1.x, [], x) l3 r3
 else
  (wantO sName last rest).bind fun t l r => (wantO sArrow l r).bind fun _ l2 r2 => (ex l2 r2).bind fun x l3 r3 => .ok (2, t.1.t, false, 0, [], x) l3 r3
def caseO (ex : Par Ex) : Par Ex := fun last rest =>
 (wantO sCase last rest).bind fun _ l r => (ex l r).bind fun x l2 r2 => (wantO sOf l2 r2).bind fun _ l3 r3 => (wantO sCurl l3 r3).bind fun _ l4 r4 =>
  if shapeL r4 = sLruc then (wantO sLruc l4 r4).bind fun _ l5 r5 => .ok (.mk 7 [] false 0 [] [x] [] []) l5 r5
  else (someO (altO ex) l4 r4).bind fun xs l5 r5 => (wantO sLruc l5 r5).bind fun _ l6 r6 => .ok (.mk 7 [] false 0 [] [x] [] xs) l6 r6
def lamO (ex : Par Ex) : Par Ex := fun last rest =>
 (wantO sLam last rest).bind fun _ l r =>
  if shapeL r = sName then
   (wantO sArrow (namesO l r []).2.1 (namesO l r []).2.2).bind fun _ l2 r2 => (ex l2 r2).bind fun x l3 r3 => .ok (.mk 8 [] false 0 (namesO l r []).1 [x] [] []) l3 r3
  else refuseO 3 l r
def exprO : Nat → Nat → Par Ex
 | 0, _ => fun _ _ => .bad 0 0
 | n + 1, d => fun last rest =>
  if shapeL rest ∈ exprShapes then
   (if d = 200 then refuseO 12 last rest
    else if shapeL rest = sLet then letO (exprO n (d + 1)) last rest
    else if shapeL rest = sCase then caseO (exprO n (d + 1)) last rest
    else if shapeL rest = sLam then lamO (exprO n (d + 1)) last rest
    else rowsO (exprO n (d + 1)) last rest)
  else refuseO 3 last rest
def declsO : Nat → List (Nm × Int) → Par (List (Nm × Int))
 | 0, acc => fun last rest => .ok acc last rest
 | n + 1, acc => fun last rest =>
  if shapeL rest = sCon then
   (takeO last rest).bind fun t l r =>
    if shapeL r = sNum then
     (takeO l r).bind fun u l2 r2 => if u.1.f = true ∨ 24 < u.1.x then refuseO 1 l r else declsO n (acc ++ [(t.1.t, u.1.x)]) l2 r2
    else refuseO 3 l r
  else .ok acc last rest
def moduleO : Nat → List (Nm × Int) → List Bnd → Par Md
 | 0, cs, bs => fun last rest => .ok (cs, bs) last rest
 | n + 1, cs, bs => fun last rest =>
  if rest = [] then .ok (cs, bs) last rest
  else if shapeL rest = sData then
   (takeO last rest).bind fun _ l r => (declsO (r.length + 1) [] l r).bind fun ds l2 r2 => (wantO sSemi l2 r2).bind fun _ l3 r3 => moduleO n (cs ++ ds) bs l3 r3
  else
   (bindO (exprO (rest.length + 201) 0) last rest).bind fun b l2 r2 => (wantO sSemi l2 r2).bind fun _ l3 r3 => moduleO n cs (bs ++ [b]) l3 r3
def parseO (T : List Tok) : Out Md := moduleO (T.length + 1) [] [] 1 T
def Less {α : Type} (m : Nat) : Out α → Prop
 | .ok _ _ r => r.length ≤ m
 | .bad _ _ => True
def Shrinks {α : Type} (p : Par α) : Prop := ∀ last rest, Less rest.length (p last rest)
theorem Less.bind {α β : Type} {m : Nat} {o : Out α} {f : α → Int → List Tok → Out β} (h : Less m o) (hf : ∀ a l r, r.length ≤ m → Less m (f a l r)) : Less m (o.bind f) := by
 cases o with
 | ok a l r => exact hf a l r h
 | bad e l => trivial
theorem Less.mono {α : Type} {m n : Nat} {o : Out α} (h : Less m o) (hm : m ≤ n) : Less n o := by
 cases o with
 | ok a l r => exact Nt h hm
 | bad e l => trivial
def tx (l : Nm) : ByteArray := ⟨l.toArray⟩
theorem tx_list (l : Nm) : (tx l).data.toList = l := back_list l
theorem tx_toList (l : Nm) : (tx l).toList = l := by rw [ByteArray.toList_eq]; exact tx_list l
def vSh (s : Sh) : Value := .agg #[.int .i64 s.1, .string (tx s.2)]
def vTok (y : Tok) : Value := .agg #[.int .i64 y.1.k, .string (tx y.1.t), .bool y.1.f, .int .u64 y.1.x, .int .i64 y.2]
def ShAt (w : World) (g : Nat) (s : Sh) : Prop := w.cell? ⟨g, 0, none⟩ = some (.int .i64 s.1) ∧ w.cell? ⟨g, 1, none⟩ = some (.string (tx s.2))
theorem ShAt.later {w w' : World} {g : Nat} {s : Sh} (h : ShAt w g s) (hb : Below w.heap.size w w') : ShAt w' g s := ⟨later' hb h.1, later' hb h.2⟩
theorem eq_shape (d : Nat) (a b : Sh) (w : World) : (Op.equalIn (d + 3) 105 (.agg #[.int .i64 a.1, .string (tx a.2)]) (.agg #[.int .i64 b.1, .string (tx b.2)])).run Tryz.prog w = .ok (decide (a = b)) w := by
 have hf : Tryz.prog.underlying 105 = some (.struct (Tryz.prog.fieldsOf 105)) := by kernel_rfl
 have q1 : ∀ (x y : Int) (w : World), (Op.equalIn (d + 2) 3 (.int .i64 x) (.int .i64 y)).run Tryz.prog w = .ok (x == y) w := fun x y w => by rw [run_equalIn_int w (d + 1) 3 .i64 .i64 x y Tryz.underlying3]
 have q2 : ∀ (x y : Nm) (w : World), (Op.equalIn (d + 2) 9 (.string (tx x)) (.string (tx y))).run Tryz.prog w = .ok (x == y) w := fun x y w => by rw [run_equalIn_string w (d + 1) 9 (tx x) (tx y) Tryz.underlying9, tx_toList, tx_toList]
 rw [run_equalIn_struct w (d + 2) 105 _ _ hf (by kernel_rfl)]
 generalize hE : Op.equalIn (d + 2) 3 = E at *
 generalize hF : Op.equalIn (d + 2) 9 = F at *
 have p0 : ∀ (x : Int) (s : ByteArray) (w : World), (part 3 #[.int .i64 x, .string s] 0).run Tryz.prog w = .ok (.int .i64 x) w := by intro x s w; simp [part, Tryz.isAgg3, go_sem]
 have p1 : ∀ (x : Int) (s : ByteArray) (w : World), (part 9 #[.int .i64 x, .string s] 1).run Tryz.prog w = .ok (.string s) w := by intro x s w; simp [part, Tryz.isAgg9, go_sem]
 have hl : (Tryz.prog.fieldsOf 105).toList = [⟨"kind", 3, 0, false, "", "treadwheel/parse", 0⟩, ⟨"text", 9, 1, false, "", "treadwheel/parse", 8⟩] := by kernel_rfl
 rw [hl]
 obtain ⟨a1, a2⟩ := a
 obtain ⟨b1, b2⟩ := b
 by_cases h1 : a1 = b1
 ·subst h1
  by_cases h2 : a2 = b2
  ·subst h2
   simp [Op.eqFields, hE, hF, p0, p1, q1, q2]
  ·have h3 : (a2 == b2) = false := by rw [beq_eq_false_iff_ne]; exact h2
   simp [Op.eqFields, hE, hF, p0, p1, q1, q2, h2, h3]
 ·have h3 : (a1 == b1) = false := by rw [beq_eq_false_iff_ne]; exact h1
  simp [Op.eqFields, hE, p0, q1, h1, h3]
theorem shape_eql (a b : Sh) (w : World) : (binOp .eql 105 (.agg #[.int .i64 a.1, .string (tx a.2)]) (.agg #[.int .i64 b.1, .string (tx b.2)])).run Tryz.prog w = .ok (.bool (decide (a = b))) w := by
 have he : (Op.equal 105 (.agg #[.int .i64 a.1, .string (tx a.2)]) (.agg #[.int .i64 b.1, .string (tx b.2)])).run Tryz.prog w = .ok (decide (a = b)) w := eq_shape 9997 a b w
 generalize hq : Op.equal = E at he
 simp [binOp, hq, he]
def ShSaid (s : Sh) (w : World) (e : Ending) (w' : World) : Prop := e = .returned (.agg #[.int .i64 s.1, .string (tx s.2)]) ∧ Below w.heap.size w w'
theorem shapeOf_any (y : Tok) (w : World) : Calls Tryz.prog 123 #[.agg #[.int .i64 y.1.k, .string (tx y.1.t), .bool y.1.f, .int .u64 y.1.x, .int .i64 y.2]] w (ShSaid (shapeT y.1) w) := by
 obtain ⟨⟨k, t, f, x⟩, ln⟩ := y
 simp only
 have hs : shapeT (⟨k, t, f, x⟩ : Tk) = if k = 5 ∨ k = 6 then (k, t) else (k, []) := rfl
 by_cases h5 : k = 5
 ·have f5 : (k == 5) = true := by simpa using h5
  rw [if_pos (Or.inl h5)] at hs
  rw [hs]
  clear hs h5
  go_enter Tryz.func123, Tryz.ntmps123
  go_wp2_with fail
  refine bodyPost_ret (v := .agg #[.int .i64 k, .string (tx t)]) (by simp [results, Tryz.results123, go_sem]) rfl ?_
  exact ⟨rfl, (Br.alloc Nr _).alloc (by simp) _⟩
 have f5 : (k == 5) = false := by simpa using h5
 by_cases h6 : k = 6
 ·have f6 : (k == 6) = true := by simpa using h6
  rw [if_pos (Or.inr h6)] at hs
  rw [hs]
  clear hs h5 h6
  go_enter Tryz.func123, Tryz.ntmps123
  go_wp2_with fail
  refine bodyPost_ret (v := .agg #[.int .i64 k, .string (tx t)]) (by simp [results, Tryz.results123, go_sem]) rfl ?_
  exact ⟨rfl, (Br.alloc Nr _).alloc (by simp) _⟩
 ·have f6 : (k == 6) = false := by simpa using h6
  rw [if_neg (by rintro (h | h); exact h5 h; exact h6 h)] at hs
  rw [hs]
  clear hs h5 h6
  go_enter Tryz.func123, Tryz.ntmps123
  go_wp2_with fail
  refine bodyPost_ret (v := .agg #[.int .i64 k, .string ⟨#[]⟩]) (by simp [results, Tryz.results123, go_sem]) rfl ?_
  exact ⟨rfl, (Br.alloc Nr _).alloc (by simp) _⟩
def TokIn (w : World) (g o : Nat) (y : Tok) : Prop := w.cell? ⟨g, o, none⟩ = some (.int .i64 y.1.k) ∧ w.cell? ⟨g, o + 1, none⟩ = some (.string (tx y.1.t)) ∧ w.cell? ⟨g, o + 2, none⟩ = some (.bool y.1.f) ∧ w.cell? ⟨g, o + 3, none⟩ = some (.int .u64 y.1.x) ∧ w.cell? ⟨g, o + 4, none⟩ = some (.int .i64 y.2)
def RestIn (w : World) (b : Nat) (v : Value) (rest : List Tok) : Prop :=
 ∃ a c, v = .slice a rest.length c ∧ rest.length ≤ c ∧ c ≤ maxLen ∧ (rest = [] ∨ ∃ g o, a = some ⟨g, o, none⟩ ∧ g < b ∧ ∀ i (h : i < rest.length), TokIn w g (o + i * 5) rest[i])
def ShB (w : World) (b g : Nat) (s : Sh) : Prop := ShAt w g s ∧ g ≠ b
theorem ShB.later {w w' : World} {b g : Nat} {s : Sh} (h : ShB w b g s) (hb : w.grownBy w' (some b)) : ShB w' b g s := ⟨⟨hb.cell h.1.1 (by simpa using h.2), hb.cell h.1.2 (by simpa using h.2)⟩, h.2⟩
structure Env8 (w : World) (b : Nat) : Prop where
 letw : ShB w b 0 sLet
 casew : ShB w b 1 sCase
 lam : ShB w b 2 sLam
 name : ShB w b 3 sName
 con : ShB w b 4 sCon
 num : ShB w b 5 sNum
 back : ShB w b 6 sBack
 opn : ShB w b 7 sOpen
 data : ShB w b 8 sData
 semi : ShB w b 9 sSemi
 inw : ShB w b 10 sIn
 ofw : ShB w b 11 sOf
 curl : ShB w b 12 sCurl
 lruc : ShB w b 13 sLruc
 arrow : ShB w b 14 sArrow
 sign : ShB w b 15 sSign
 shut : ShB w b 16 sShut
 eq : ShB w b 17 sEq
structure Rdr (w : World) (b : Nat) (me ma : Nat) (last : Int) (rest : List Tok) (d : Nat) : Prop where
 c0 : ∃ v, w.cell? ⟨b, 0, none⟩ = some v ∧ RestIn w b v rest
 c1 : w.cell? ⟨b, 1, none⟩ = some (.int .i64 last)
 c2 : w.cell? ⟨b, 2, none⟩ = some (.int .i64 d)
 c3 : w.cell? ⟨b, 3, none⟩ = some (.map (some me))
 c4 : w.cell? ⟨b, 4, none⟩ = some (.map (some ma))
 z : ∀ j, w.frozen? ⟨b, j, none⟩ = false
end Go.Proofs.YtbnmmbjajheedaaGreatDoor
