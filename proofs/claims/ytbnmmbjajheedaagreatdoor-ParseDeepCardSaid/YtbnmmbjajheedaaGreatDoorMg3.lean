import Derived.WalkMore
import Derived.Deep.QuietTactic
import Derived.BigQuiet
import Derived.Test.YtbnmmbjajheedaaGreatDoorMg2
/- All tokens of a text, of lists of bytes; how long a token is. -/
namespace Go.Proofs.YtbnmmbjajheedaaGreatDoor
open Go.RowKit Go.Lib

inductive Res where
  | good (l : List (Tk × Int))
  | bad (e line : Int)

/-- The tokens of what is left, behind those that were read. -/
def lexA : Nat → List UInt8 → Int → List (Tk × Int) → Res
  | 0, _, _, acc => .good acc
  | _ + 1, [], _, acc => .good acc
  | n + 1, c :: r, line, acc =>
    if c = 10 then lexA n r (line + 1) acc
    else if c = 9 ∨ c = 13 ∨ c = 32 then lexA n r line acc
    else if hasPrefix (c :: r) [45, 45] = true then
      (if indexByte (c :: r) 10 < 0 then .good acc else lexA n ((c :: r).drop (indexByte (c :: r) 10).toNat) line acc)
    else if (readL (c :: r)).2 = 0 then
      (if acc.length = 4096 then .bad 2 line else lexA n ((c :: r).drop (readL (c :: r)).1.t.length) line (acc ++ [((readL (c :: r)).1, line)]))
    else .bad (readL (c :: r)).2 line
def lexL (l : List UInt8) : Res := lexA (l.length + 1) l 1 []

theorem word_one (c : UInt8) : wordF [c] = none := by simp [wordF, kput]
theorem word_nil : kindF [] = none := by
  simp [kindF, kputs, wordF, kput]
theorem kind_run (c : UInt8) (h : inRun c = false) : kindF [c] = none := by
  have nm : ∀ (l : List UInt8), (∀ x, x ∈ l → inRun x = true) → ∀ (f : List UInt8 → Option Int) u, kputs f l u [c] = f [c] := fun l hl f u => by
    unfold kputs
    rw [if_neg]
    rintro ⟨x, hx, e⟩
    simp only [List.cons.injEq, and_true] at e
    subst e
    rw [hl _ hx] at h
    cases h
  unfold kindF
  rw [nm _ (by decide), nm _ (by decide), nm _ (by decide), word_one]

theorem run_nil {c : UInt8} {r : List UInt8} (h : runL (c :: r) = []) : inRun c = false := by
  unfold runL at h
  rw [List.takeWhile_cons] at h
  cases g : inRun c with
  | false => rfl
  | true => rw [g] at h; simp at h
theorem kindOf_nil {c : UInt8} {r : List UInt8} (h : runL (c :: r) = []) : kindOf (c :: r) = 0 := by
  unfold kindOf
  rw [h, word_nil]
  simp [kind_run c (run_nil h)]
theorem numT_ok {t : List UInt8} (h : (numT t).2 = 0) : (numT t).1.t = t := by
  unfold numT at *
  split
  · rfl
  · rename_i g
    rw [if_neg g] at h
    exact absurd h g
theorem numT_nil : (numT []).2 = 3 := by decide
theorem sign_pos : ∀ x, x ∈ signsB → 1 ≤ x.1.data.toList.length := by decide
theorem sign_some {l : List UInt8} {x : ByteArray × Int} (h : signL l = some x) : 1 ≤ x.1.data.toList.length ∧ x.1.data.toList.length ≤ l.length := by
  unfold signL at h
  have h1 := List.mem_of_find?_eq_some h
  have h2 := List.find?_some h
  refine ⟨sign_pos x h1, ?_⟩
  unfold hasPrefix at h2
  exact (List.isPrefixOf_iff_prefix.1 h2).length_le

/-- A token takes some bytes, and no more than there are. -/
theorem read_len {c : UInt8} {r : List UInt8} (h : (readL (c :: r)).2 = 0) : 1 ≤ (readL (c :: r)).1.t.length ∧ (readL (c :: r)).1.t.length ≤ (c :: r).length := by
  have hm : 1 ≤ (markedL (c :: r)).length ∧ (markedL (c :: r)).length ≤ (c :: r).length := by
    unfold markedL
    have h1 := trimP_le ((c :: r).drop 1) [45]
    simp only [List.drop_succ_cons, List.drop_zero] at h1
    rw [List.length_take]
    simp only [List.length_cons, List.drop_succ_cons, List.drop_zero]
    omega
  have hr := run_le (c :: r)
  unfold readL at *
  cases hs : signL (c :: r) with
  | some x => exact sign_some hs
  | none =>
    rw [hs] at h
    simp only at h ⊢
    split at h
    · rename_i g
      rw [if_pos g, numT_ok h]
      exact hm
    · rename_i g
      rw [if_neg g]
      unfold readR at *
      split at h
      · cases h
      · rename_i g0
        rw [if_neg g0]
        have hne : runL (c :: r) ≠ [] := fun e => g0 (kindOf_nil e)
        have hpos : 1 ≤ (runL (c :: r)).length := by
          cases hh : runL (c :: r) with
          | nil => exact absurd hh hne
          | cons a b => simp
        split at h
        · rename_i g3
          rw [if_pos g3, numT_ok h]
          exact ⟨hpos, hr⟩
        · rename_i g3
          rw [if_neg g3]
          split at h
          · cases h
          · rename_i g16
            rw [if_neg g16]
            exact ⟨hpos, hr⟩

theorem index_le : ∀ (l : List UInt8) (c : UInt8), indexByte l c ≤ l.length ∧ -1 ≤ indexByte l c ∧ (indexByte l c < 0 → indexByte l c = -1) ∧ (indexByte l c = l.length → l = [] ∨ indexByte l c = -1)
  | [], c => ⟨by simp [indexByte], by simp [indexByte], fun _ => by simp [indexByte], fun _ => Or.inl rfl⟩
  | b :: l, c => by
    obtain ⟨h1, h2, h3, h4⟩ := index_le l c
    unfold indexByte
    by_cases g : (b == c) = true
    · rw [if_pos g]
      simp only [List.length_cons]
      refine ⟨by omega, by omega, fun h => by omega, fun h => by omega⟩
    · rw [if_neg g]
      by_cases g2 : (indexByte l c == -1) = true
      · rw [if_pos g2]
        simp only [List.length_cons]
        refine ⟨by omega, by omega, fun h => by trivial, fun h => Or.inr (by trivial)⟩
      · rw [if_neg g2]
        have g3 : indexByte l c ≠ -1 := by simpa using g2
        simp only [List.length_cons]
        refine ⟨by omega, by omega, fun h => by omega, fun h => ?_⟩
        rcases h4 (by omega) with e | e
        · subst e
          simp [indexByte] at g3
        · exact absurd e g3

theorem ba_of {b : ByteArray} {l : List UInt8} (h : b.data.toList = l) : b = ⟨l.toArray⟩ := by
  subst h
  cases b
  simp

/-- Tokens as they lie. -/
def flatT : List (Tk × Int) → List Value
  | [] => []
  | x :: r => [.int .i64 x.1.k, .string ⟨x.1.t.toArray⟩, .bool x.1.f, .int .u64 x.1.x, .int .i64 x.2] ++ flatT r
theorem flatT_append (a b : List (Tk × Int)) : flatT (a ++ b) = flatT a ++ flatT b := by
  induction a with
  | nil => rfl
  | cons x a ih => simp only [List.cons_append, flatT, ih, List.append_assoc]

end Go.Proofs.YtbnmmbjajheedaaGreatDoor

/- The program's Lex: which tokens it tells. -/
namespace Go.Proofs.YtbnmmbjajheedaaGreatDoor
open Go.RowKit Go.Lib

theorem Tryz.info_token : (Tryz.prog.info? 41).map (fun i => (i.zero, i.size, i.bytes)) = some (some (.agg #[.int .i64 0, .string ⟨#[]⟩, .bool false, .int .u64 0, .int .i64 0]), 5, 48) := by kernel_rfl
theorem info_parts {P : Program} {e : TypeId} {z : Value} {n b : Nat} (h : (P.info? e).map (fun i => (i.zero, i.size, i.bytes)) = some (some z, n, b)) : ∃ i, P.info? e = some i ∧ i.zero = some z ∧ i.size = n ∧ i.bytes = b := by
  cases hi : P.info? e with
  | none => rw [hi] at h; cases h
  | some i =>
    rw [hi] at h
    simp only [Option.map_some, Option.some.injEq, Prod.mk.injEq] at h
    exact ⟨i, rfl, h.1, h.2.1, h.2.2⟩

/-- A reader that was made. -/
def ReaderSaid (w : World) (e : Ending) (w' : World) : Prop :=
  ∃ b kb, e = .returned (.func (.func 68) #[] #[.pointer (some ⟨b, 0, none⟩)]) ∧ w'.cell? ⟨b, 0, none⟩ = some (.map (some kb)) ∧ KMap w' kb 72 kindF ∧ Below w.heap.size w w'
set_option maxHeartbeats 2000000 in
set_option maxRecDepth 100000 in
theorem reader_any (w : World) : Calls Tryz.prog 29 #[] w (ReaderSaid w) := by
  go_enter Tryz.func29, Tryz.ntmps29
  go_wp2_with fail
  refine (kinds_any w).mono ?_
  rintro e w2 ⟨kb, rfl, hk, hm, hb⟩
  have hx := (Below.refl w2.heap.size w2).alloc (Nat.le_refl _) (.cells #[.map (some kb)] 117)
  have HB := Lib.hid (And.intro (hm.later hx) (onB' hb hx))
  clear hk hm hb hx
  go_wp2_with fail
  go_ret
  exact ⟨w2.heap.size, kb, rfl, by simp [go_sem], HB.out.1, HB.out.2⟩

theorem letter_at (s : ByteArray) (k : Nat) (hk : k < s.size) (w : World) : (Instr.index 9 (.string s) (.int .i64 (k : Int))).run Tryz.prog w = .ok (.int .u8 (s.data.toList.getD k 0).toNat) w := by
  rw [run_index_string w 9 s .i64 _ Tryz.underlying9, dif_pos (by omega)]
  have hz := Lib.size_eq s
  have e : s[((k : Int)).toNat]'(by omega) = s.data.toList.getD k 0 := by
    simp only [Int.toNat_natCast]
    rw [List.getD, List.getElem?_eq_getElem (by omega)]
    rfl
  rw [e]

/-- What Lex leaves. -/
def LexSaid (R : Res) (w : World) (e : Ending) (w' : World) : Prop :=
  Below w.heap.size w w' ∧ match R with
  | .good T => ∃ a n c, e = .returned (.tuple #[.slice a n c, .int .i64 0, .int .i64 0]) ∧ w'.ownsRow w.heap.size 41 5 (.slice a n c) T.length (flatT T)
  | .bad k line => e = .returned (.tuple #[.slice none 0 0, .int .i64 k, .int .i64 line])

def blanksB : ByteArray := ⟨#[9, 13, 32]⟩
theorem blank_iff (c : UInt8) : (0 ≤ indexByte blanksB.data.toList c) ↔ (c = 9 ∨ c = 13 ∨ c = 32) := by
  simp only [blanksB, indexByte]
  by_cases h1 : c = 9
  · subst h1; decide
  · by_cases h2 : c = 13
    · subst h2; decide
    · by_cases h3 : c = 32
      · subst h3; decide
      · have e1 : ((9 : UInt8) == c) = false := by simpa using Ne.symm h1
        have e2 : ((13 : UInt8) == c) = false := by simpa using Ne.symm h2
        have e3 : ((32 : UInt8) == c) = false := by simpa using Ne.symm h3
        simp [e1, e2, e3, h1, h2, h3]

theorem own_same {base : Nat} {e : TypeId} {size : Nat} {v : Value} {n : Nat} {xs : List Value} {W W' : World} (h : W.ownsRow base e size v n xs) (hk : ∀ g, v.ownBlock = some g → W'.heap[g]? = W.heap[g]?) : W'.ownsRow base e size v n xs := by
  refine ⟨h.1, ?_⟩
  rcases h.2 with e | ⟨g, cap, cur, rfl, hg, hb, hr⟩
  · exact Or.inl e
  · exact Or.inr ⟨g, cap, cur, rfl, hg, (hk g rfl).trans hb, hr⟩
theorem own_base {base base' : Nat} {e : TypeId} {size : Nat} {v : Value} {n : Nat} {xs : List Value} {W : World} (h : W.ownsRow base e size v n xs) (hb : base' ≤ base) : W.ownsRow base' e size v n xs := by
  refine ⟨h.1, ?_⟩
  rcases h.2 with e | ⟨g, cap, cur, rfl, hg, hr⟩
  · exact Or.inl e
  · exact Or.inr ⟨g, cap, cur, rfl, Nat.le_trans hb hg, hr⟩
theorem own_below {base : Nat} {e : TypeId} {size : Nat} {v : Value} {n : Nat} {xs : List Value} {W W' : World} (h : W.ownsRow base e size v n xs) (hb : Below W.heap.size W W') : W'.ownsRow base e size v n xs :=
  own_same h fun g hg => hb.block g (h.lt g hg).2
theorem index_pos {c : UInt8} {r : List UInt8} (h : c ≠ 10) : indexByte (c :: r) 10 < 0 ∨ 1 ≤ indexByte (c :: r) 10 := by
  obtain ⟨h1, h2, h3, h4⟩ := index_le r 10
  unfold indexByte
  have e : (c == 10) = false := by simpa using h
  rw [e]
  simp only [Bool.false_eq_true, if_false]
  by_cases g2 : (indexByte r 10 == -1) = true
  · rw [if_pos g2]
    exact Or.inl (by decide)
  · rw [if_neg g2]
    have g3 : indexByte r 10 ≠ -1 := by simpa using g2
    exact Or.inr (by omega)
theorem read_tk (s : ByteArray) (hs : s.size ≤ 100000) (h1 : 1 ≤ s.size) (b kb : Nat) (w : World) (hR : Rd b kb w) (k : Int) (t : List UInt8) (f : Bool) (x err : Int) (hn : readL s.data.toList = (⟨k, t, f, x⟩, err)) :
    Calls Tryz.prog 68 #[.string s, .pointer (some ⟨b, 0, none⟩)] w fun e w' => ∃ b : ByteArray, e = .returned (.tuple #[.agg #[.int .i64 k, .string b, .bool f, .int .u64 x, .int .i64 0], .int .i64 err]) ∧ b.data.toList = t ∧ Below w.heap.size w w' := by
  refine (read_any s hs h1 b kb w hR).mono ?_
  rw [hn]
  rintro e w' ⟨b, he, hb, h⟩
  exact ⟨b, he, hb, h⟩
theorem byte_back (c : UInt8) : ((c.toNat : Int)).toNat.toUInt8 = c := by simp

set_option maxHeartbeats 16000000 in
set_option maxRecDepth 100000 in
theorem lex_any (s : ByteArray) (hs : s.size ≤ 100000) (w : World) (hS : SG w) (hE : EE w) : Calls Tryz.prog 16 #[.string s] w (LexSaid (lexL s.data.toList) w) := by
  obtain ⟨i0, hi0, hz0, hzs, hzb⟩ := info_parts Tryz.info_token
  have HSE := Lib.hid (And.intro hS hE)
  clear hS hE
  go_enter Tryz.func16, Tryz.ntmps16
  go_wp2_with fail
  go_step3
  go_wp2_with fail
  refine (reader_any w).mono ?_
  rintro e W ⟨b, kb, rfl, hm, hk, hb⟩
  have HR := Lib.hid (show Rd b kb W ∧ Below w.heap.size w W from ⟨⟨hm, hk, HSE.out.1.below hb, HSE.out.2.below hb⟩, hb⟩)
  clear hm hk hb HSE
  go_wp2_with fail
  go_step3
  go_wp2_with fail
  have hsz := size_eq s
  have HF0 := Lib.hid (show lexA (s.size + 1) (s.data.toList.drop 0) 1 [] = lexL s.data.toList from by unfold lexL; rw [hsz, List.drop_zero])
  clear hsz
  go_loopw [6, 7, 8] (fun s6 s7 s8 wr => ∃ (k : Nat) (line : Int) (acc : List (Tk × Int)) (vv : Value) (f : Nat), k ≤ s.size ∧ vv = s6 ∧ s7 = .int .i64 k ∧ s8 = .int .i64 line ∧ s.size - k < f ∧ lexA f (s.data.toList.drop k) line acc = lexL s.data.toList ∧ wr.ownsRow W.heap.size 41 5 vv acc.length (flatT acc) ∧ Below W.heap.size W wr ∧ Rd b kb wr ∧ 0 ≤ line ∧ line ≤ 1 + k ∧ acc.length ≤ 4096) (fun _ s7 _ _ => s.size - (RowKit.intOf s7).toNat)
  case atStart => exact ⟨0, 1, [], _, s.size + 1, Nat.zero_le _, rfl, rfl, rfl, by omega, HF0.out, World.ownsRow_nil _ _ _ _, Below.refl _ _, HR.out.1, by omega, by omega, by simp⟩
  case round =>
    clear HF0
    obtain ⟨k, line, acc, vv, f, hk, rfl, rfl, rfl, hf, hR, hown, hbw, hrd, hl0, hl1, hacc⟩ := hrel
    have HQ := Lib.hid (And.intro hR (And.intro hown (And.intro hbw hrd)))
    clear hR hown hbw hrd
    by_cases hlt : k < s.size
    · have hlt' : (k : Int) < (s.size : Int) := by omega
      have hsz := size_eq s
      obtain ⟨c, r, hcr⟩ : ∃ c r, s.data.toList.drop k = c :: r := by
        rw [List.drop_eq_getElem_cons (by omega)]
        exact ⟨_, _, rfl⟩
      have hrl : r.length + 1 = s.size - k := by
        have := congrArg List.length hcr
        rw [List.length_drop, ← hsz] at this
        simp only [List.length_cons] at this
        omega
      have hrt : r = s.data.toList.drop (k + 1) := by
        have := congrArg List.tail hcr
        rw [List.tail_drop] at this
        exact this.symm
      obtain ⟨g, rfl⟩ : ∃ g, f = g + 1 := ⟨f - 1, by omega⟩
      have hstep := HQ.out.1
      rw [hcr] at hstep
      unfold lexA at hstep
      obtain ⟨d, hd⟩ : ∃ d : ByteArray, s.extract k s.size = d := ⟨_, rfl⟩
      have hdl : d.data.toList = c :: r := by rw [← hd, tail_list, hcr]
      have hdz : d.size = s.size - k := by rw [size_eq, hdl, List.length_cons, hrl]
      have h0 : 0 < d.size := by omega
      have hc0 : d[0]'h0 = c := by
        have : d.data.toList[0]? = some (d[0]'h0) := List.getElem?_eq_getElem (by simpa using h0)
        rw [hdl] at this
        simpa using this.symm
      have HST := Lib.hid (And.intro hstep (And.intro hdl (And.intro hdz (And.intro hrl (And.intro hrt hcr)))))
      clear hstep hdl hrl hrt hcr hsz hdz
      have b1 : (0 : Int) ≤ (k : Int) := by omega
      have b2 : (k : Int) ≤ (s.size : Int) := by omega
      have el : IntKind.i64.wrap (line + 1) = line + 1 := by rw [IntKind.wrap_i64]; omega
      have ek : IntKind.i64.wrap ((k : Int) + 1) = (k : Int) + 1 := by rw [IntKind.wrap_i64]; omega
      by_cases c10 : c = 10
      · have f10 : ((c.toNat : Int) == 10) = true := by subst c10; rfl
        have hnx := HST.out.1
        rw [if_pos c10, HST.out.2.2.2.2.1] at hnx
        have HN := Lib.hid hnx
        clear hnx c10
        go_wp2_with fail
        exact ⟨⟨k + 1, line + 1, acc, vv, g, by omega, rfl, by go_num, rfl, by omega, HN.out, HQ.out.2.1, HQ.out.2.2.1, HQ.out.2.2.2, by omega, by omega, hacc⟩, by simp [RowKit.intOf]; omega⟩
      · have f10 : ((c.toNat : Int) == 10) = false := by
          have : c.toNat ≠ 10 := fun e => c10 (UInt8.toNat_inj.1 (by rw [e]; rfl))
          simp
          omega
        have hnx := HST.out.1
        rw [if_neg c10] at hnx
        have HN := Lib.hid hnx
        have HIB := Lib.hid (fun W => Tryz.strings_IndexByte blanksB (c.toNat : Int) W)
        have hbk := byte_back c
        rw [hbk] at HIB
        have HBI := Lib.hid (blank_iff c)
        have HC10 := Lib.hid c10
        clear hnx hbk c10
        go_wp2_with fail
        refine (HIB.out wr).mono ?_
        rintro e w5 ⟨rfl, rfl⟩
        by_cases cb : c = 9 ∨ c = 13 ∨ c = 32
        · have fb : decide (0 ≤ indexByte blanksB.data.toList c) = true := decide_eq_true (HBI.out.2 cb)
          have hn2 := HN.out
          rw [if_pos cb, HST.out.2.2.2.2.1] at hn2
          have HN2 := Lib.hid hn2
          clear hn2 cb
          generalize indexByte blanksB.data.toList c = ib at *
          go_wp2_with fail
          exact ⟨⟨k + 1, line, acc, vv, g, by omega, rfl, by go_num, rfl, by omega, HN2.out, HQ.out.2.1, HQ.out.2.2.1, HQ.out.2.2.2, by omega, by omega, hacc⟩, by simp [RowKit.intOf]; omega⟩
        · have fb : decide (0 ≤ indexByte blanksB.data.toList c) = false := decide_eq_false (fun h => cb (HBI.out.1 h))
          have hn2 := HN.out
          rw [if_neg cb] at hn2
          have HN2 := Lib.hid hn2
          clear hn2 cb HN HBI
          generalize indexByte blanksB.data.toList c = ib at *
          have HPR := Lib.hid (fun W => Tryz.strings_HasPrefix d ⟨#[45, 45]⟩ W)
          go_wp2_with fail
          refine (HPR.out w5).mono ?_
          rintro e w6 ⟨rfl, rfl⟩
          rw [HST.out.2.1]
          cases hpp : hasPrefix (c :: r) [45, 45] with
          | true =>
            have hn3 := HN2.out
            rw [if_pos hpp] at hn3
            have HN3 := Lib.hid hn3
            have HI2 := Lib.hid (fun W => Tryz.strings_IndexByte d 10 W)
            have hil := index_le (c :: r) 10
            have hip := index_pos (r := r) HC10.out
            clear hn3 hpp HN2
            go_wp2_with fail
            refine (HI2.out w6).mono ?_
            rintro e w7 ⟨rfl, rfl⟩
            rw [HST.out.2.1]
            rw [show ((10 : Int).toNat.toUInt8) = (10 : UInt8) from rfl]
            obtain ⟨i1, i2, i3, -⟩ := hil
            simp only [List.length_cons] at i1
            rw [HST.out.2.2.2.1] at i1
            generalize indexByte (c :: r) 10 = ix at *
            by_cases hix : ix < 0
            · have fix : decide (ix < 0) = true := decide_eq_true hix
              have hgd := HN3.out
              rw [if_pos hix] at hgd
              have HGD := Lib.hid hgd
              obtain ⟨aa, nn, cc, hvv⟩ : ∃ a n c, vv = .slice a n c := by
                rcases HQ.out.2.1.2 with ⟨e, _⟩ | ⟨g, cap, cur, e, _⟩
                · exact ⟨_, _, _, e⟩
                · exact ⟨_, _, _, e⟩
              subst hvv
              clear hgd hix hip
              go_wp2_with fail
              refine bodyPost_ret (v := .tuple #[.slice aa nn cc, .int .i64 0, .int .i64 0]) (by simp [results, Tryz.results16, go_sem]) rfl ?_
              rw [← HGD.out]
              exact ⟨onB' HR.out.2 HQ.out.2.2.1, aa, nn, cc, rfl, own_base HQ.out.2.1 HR.out.2.size⟩
            · have fix : decide (ix < 0) = false := decide_eq_false hix
              have hgd := HN3.out
              rw [if_neg hix, ← HST.out.2.2.2.2.2, List.drop_drop] at hgd
              have HGD := Lib.hid hgd
              obtain ⟨q, rfl⟩ : ∃ q : Nat, ix = q := ⟨ix.toNat, by omega⟩
              have eq1 : IntKind.i64.wrap ((k : Int) + (q : Int)) = (k : Int) + q := by rw [IntKind.wrap_i64]; omega
              clear hgd hix i2 i3
              go_wp2_with fail
              exact ⟨⟨k + q, line, acc, vv, g, by omega, rfl, by go_num, rfl, by omega, by have := HGD.out; simpa using this, HQ.out.2.1, HQ.out.2.2.1, HQ.out.2.2.2, by omega, by omega, hacc⟩, by simp [RowKit.intOf]; omega⟩
          | false =>
            have hn3 := HN2.out
            rw [if_neg (by rw [hpp]; decide)] at hn3
            obtain ⟨⟨kd, tx, ff, xx⟩, er, hrd⟩ : ∃ t er, readL (c :: r) = (t, er) := ⟨_, _, rfl⟩
            rw [hrd] at hn3
            have hlen : er = 0 → 1 ≤ tx.length ∧ tx.length ≤ s.size - k := fun e => by
              have := read_len (c := c) (r := r) (by rw [hrd]; exact e)
              rw [hrd] at this
              simp only [List.length_cons] at this
              rw [HST.out.2.2.2.1] at this
              exact this
            have HN3 := Lib.hid hn3
            have HRA := Lib.hid (read_tk d (by have := HST.out.2.2.1; omega) (by omega) b kb w6 HQ.out.2.2.2 kd tx ff xx er (by rw [HST.out.2.1]; exact hrd))
            have HLN := Lib.hid hlen
            clear hn3 hpp HN2 hrd hlen
            go_wp2_with fail
            refine HRA.out.mono ?_
            rintro e w7 ⟨bb, rfl, hbb, hb⟩
            have hx := (Below.refl w7.heap.size w7).alloc (Nat.le_refl _) (.cells #[.int .i64 kd, .string bb, .bool ff, .int .u64 xx, .int .i64 0] 41)
            have c0 : (w7.alloc (.cells #[.int .i64 kd, .string bb, .bool ff, .int .u64 xx, .int .i64 0] 41)).cell? ⟨w7.heap.size, 0, none⟩ = some (.int .i64 kd) := by simp [go_sem]
            have c1 : (w7.alloc (.cells #[.int .i64 kd, .string bb, .bool ff, .int .u64 xx, .int .i64 0] 41)).cell? ⟨w7.heap.size, 1, none⟩ = some (.string bb) := by simp [go_sem]
            have c2 : (w7.alloc (.cells #[.int .i64 kd, .string bb, .bool ff, .int .u64 xx, .int .i64 0] 41)).cell? ⟨w7.heap.size, 2, none⟩ = some (.bool ff) := by simp [go_sem]
            have c3 : (w7.alloc (.cells #[.int .i64 kd, .string bb, .bool ff, .int .u64 xx, .int .i64 0] 41)).cell? ⟨w7.heap.size, 3, none⟩ = some (.int .u64 xx) := by simp [go_sem]
            have c4 : (w7.alloc (.cells #[.int .i64 kd, .string bb, .bool ff, .int .u64 xx, .int .i64 0] 41)).cell? ⟨w7.heap.size, 4, none⟩ = some (.int .i64 0) := by simp [go_sem]
            have cz : ∀ j, (w7.alloc (.cells #[.int .i64 kd, .string bb, .bool ff, .int .u64 xx, .int .i64 0] 41)).frozen? ⟨w7.heap.size, j, none⟩ = false := fun j => by simp
            have zs : (w7.alloc (.cells #[.int .i64 kd, .string bb, .bool ff, .int .u64 xx, .int .i64 0] 41)).heap.size = w7.heap.size + 1 := by simp
            have hsw := hb.size
            have H8 := Lib.hid (And.intro (onB' (onB' HQ.out.2.2.1 hb) hx) (And.intro (own_below (own_below HQ.out.2.1 hb) hx) (And.intro ((HQ.out.2.2.2.later hb).later hx) (And.intro hbb (own_below HQ.out.2.1 hb)))))
            have hwb := HQ.out.2.2.1.size
            have H7 := Lib.hid (And.intro (onB' HQ.out.2.2.1 hb) (And.intro (own_below HQ.out.2.1 hb) (HQ.out.2.2.2.later hb)))
            obtain ⟨aa, nn, cc, hvv⟩ : ∃ a n c, vv = .slice a n c := by
              rcases HQ.out.2.1.2 with ⟨e, _⟩ | ⟨g, cap, cur, e, _⟩
              · exact ⟨_, _, _, e⟩
              · exact ⟨_, _, _, e⟩
            subst hvv
            obtain rfl : nn = acc.length := by
              rcases HQ.out.2.1.2 with ⟨e, e2⟩ | ⟨g, cap, cur, e, _⟩
              · cases e; exact e2.symm
              · cases e; rfl
            clear hb hx hbb
            by_cases g0 : er = 0
            · subst g0
              have hl2 := HLN.out rfl
              by_cases g4 : acc.length = 4096
              · have f4 : ((acc.length : Int) == 4096) = true := by rw [g4]; rfl
                have hgd := HN3.out
                rw [if_pos (by trivial), if_pos g4] at hgd
                have HGD := Lib.hid hgd
                clear hgd g4
                go_upto_region 7 with fail
                generalize (w7.alloc (.cells #[.int .i64 kd, .string bb, .bool ff, .int .u64 xx, .int .i64 0] 41)) = W8 at *
                go_wp2_with fail
                refine bodyPost_ret (v := .tuple #[.slice none 0 0, .int .i64 2, .int .i64 line]) (by simp [results, Tryz.results16, go_sem]) rfl ?_
                rw [← HGD.out]
                exact ⟨onB' HR.out.2 H8.out.1, rfl⟩
              · have f4 : ((acc.length : Int) == 4096) = false := by simp; omega
                have hgd := HN3.out
                rw [if_pos (by trivial), if_neg g4, ← HST.out.2.2.2.2.2, List.drop_drop] at hgd
                have HGD := Lib.hid hgd
                clear hgd
                have hbz : bb.size = tx.length := by rw [size_eq, H8.out.2.2.2.1]
                have eq1 : IntKind.i64.wrap ((k : Int) + (bb.size : Int)) = (k : Int) + (bb.size : Int) := by rw [IntKind.wrap_i64]; omega
                go_upto_region 12 with fail
                have h79 : Below w7.heap.size w7 (w7.alloc (.cells #[.int .i64 kd, .string bb, .bool ff, .int .u64 xx, .int .i64 line] 41)) := (Below.refl w7.heap.size w7).alloc (Nat.le_refl _) _
                have d0 : (w7.alloc (.cells #[.int .i64 kd, .string bb, .bool ff, .int .u64 xx, .int .i64 line] 41)).cell? ⟨w7.heap.size, 0, none⟩ = some (.int .i64 kd) := by simp [go_sem]
                have d1 : (w7.alloc (.cells #[.int .i64 kd, .string bb, .bool ff, .int .u64 xx, .int .i64 line] 41)).cell? ⟨w7.heap.size, 1, none⟩ = some (.string bb) := by simp [go_sem]
                have d2 : (w7.alloc (.cells #[.int .i64 kd, .string bb, .bool ff, .int .u64 xx, .int .i64 line] 41)).cell? ⟨w7.heap.size, 2, none⟩ = some (.bool ff) := by simp [go_sem]
                have d3 : (w7.alloc (.cells #[.int .i64 kd, .string bb, .bool ff, .int .u64 xx, .int .i64 line] 41)).cell? ⟨w7.heap.size, 3, none⟩ = some (.int .u64 xx) := by simp [go_sem]
                have d4 : (w7.alloc (.cells #[.int .i64 kd, .string bb, .bool ff, .int .u64 xx, .int .i64 line] 41)).cell? ⟨w7.heap.size, 4, none⟩ = some (.int .i64 line) := by simp [go_sem]
                have z9 : (w7.alloc (.cells #[.int .i64 kd, .string bb, .bool ff, .int .u64 xx, .int .i64 line] 41)).heap.size = w7.heap.size + 1 := by simp
                have H9 := Lib.hid (And.intro (H7.out.1.trans (h79.mono H7.out.1.size)) (And.intro (own_below H7.out.2.1 h79) (H7.out.2.2.later h79)))
                have h7w := H7.out.1.size
                have hne : some w7.heap.size ≠ (Value.slice aa acc.length cc).ownBlock := fun e => by
                  have := (H7.out.2.1.lt _ e.symm).2
                  omega
                have hbt := Lib.hid (ba_of H8.out.2.2.2.1)
                have HTX := Lib.hid H8.out.2.2.2.1
                clear h79 H8 c0 c1 c2 c3 c4 cz
                have z9' := Nat.le_of_eq z9.symm
                clear z9 zs
                generalize (w7.alloc (.cells #[.int .i64 kd, .string bb, .bool ff, .int .u64 xx, .int .i64 line] 41)) = W9 at *
                have m9 : acc.length + 1 ≤ maxLen := by unfold maxLen; omega
                have m48 : (acc.length + 1) * 48 ≤ 140737488355328 := by omega
                have one5 : ∀ y ∈ [Value.int .i64 kd, .string bb, .bool ff, .int .u64 xx, .int .i64 line], y.oneCell' = true := by intro y hy; simp at hy; rcases hy with rfl | rfl | rfl | rfl | rfl <;> rfl
                go_upto_region 13 with (at_builtin; refine wpList_append_lies _ rfl _ _ 34 rfl W.heap.size 41 i0 (.agg #[.int .i64 0, .string ⟨#[]⟩, .bool false, .int .u64 0, .int .i64 0]) 5 48 Tryz.underlying34 hi0 hz0 hzs hzb rfl (by decide) (.slice aa acc.length cc) acc.length (flatT acc) rfl (H9.out.2.1.alloc _) ⟨W9.heap.size, 0, none⟩ 1 1 [.int .i64 kd, .string bb, .bool ff, .int .u64 xx, .int .i64 line] rfl rfl (World.news_of_block (heap_alloc_new _ _)) one5 (by decide) m9 m48 (by simp; omega) _ rfl ?_; intro g9 cap9 w11 o1 o2 o3 o4)
                have hxx := (Below.refl W9.heap.size W9).alloc (Nat.le_refl _) (.cells #[.int .i64 kd, .string bb, .bool ff, .int .u64 xx, .int .i64 line] 41)
                have hob : ∀ g, (Value.slice aa acc.length cc).ownBlock = some g → W.heap.size ≤ g := fun g hg => (H7.out.2.1.lt g hg).1
                have hB11 : Below W.heap.size W w11 := by
                  have h0 := onB' H9.out.1 hxx
                  have hs0 := H9.out.1.size
                  exact ⟨o2.os.trans h0.os, o2.tape.trans h0.tape, o2.output.trans h0.output, Nat.le_trans h0.size o2.size, fun q hq => (o2.block q (by have := h0.size; omega) (fun e => by have := hob q e.symm; omega)).trans (h0.block q hq)⟩
                have hR11 : Rd b kb w11 := HR.out.1.later hB11
                have e1 := o2.cell (later' hxx d1) (by simpa using hne)
                have HO := Lib.hid (And.intro o1 (And.intro hB11 hR11))
                clear o1 o2 o3 o4 hB11 hR11 hxx hob H9 H7
                go_wp2_with fail
                refine ⟨⟨k + bb.size, line, acc ++ [(⟨kd, tx, ff, xx⟩, line)], _, g, by omega, rfl, by go_num, rfl, by omega, by have := HGD.out; rw [← hbz] at this; simpa using this, ?_, HO.out.2.1, HO.out.2.2, by omega, by omega, by simp; omega⟩, by simp [RowKit.intOf]; omega⟩
                rw [flatT_append]
                have hlen : (acc ++ [((⟨kd, tx, ff, xx⟩ : Tk), line)]).length = acc.length + 1 := by simp
                rw [hlen]
                have := HO.out.1
                rw [hbt.out] at this
                exact this
            · have f0 : (er == 0) = false := by simpa using g0
              have f1 : (er != 0) = true := by simpa using g0
              have hgd := HN3.out
              rw [if_neg g0] at hgd
              have HGD := Lib.hid hgd
              clear hgd
              go_upto_region 7 with fail
              generalize (w7.alloc (.cells #[.int .i64 kd, .string bb, .bool ff, .int .u64 xx, .int .i64 0] 41)) = W8 at *
              go_wp2_with fail
              refine bodyPost_ret (v := .tuple #[.slice none 0 0, .int .i64 er, .int .i64 line]) (by simp [results, Tryz.results16, go_sem]) rfl ?_
              rw [← HGD.out]
              exact ⟨onB' HR.out.2 H8.out.1, rfl⟩
    · obtain rfl : k = s.size := by omega
      have hgd : lexL s.data.toList = .good acc := by
        rw [← HQ.out.1, List.drop_of_length_le (by simp)]
        cases f <;> rfl
      have HGD := Lib.hid hgd
      clear hgd
      obtain ⟨aa, nn, cc, hvv⟩ : ∃ a n c, vv = .slice a n c := by
        rcases HQ.out.2.1.2 with ⟨e, _⟩ | ⟨g, cap, cur, e, _⟩
        · exact ⟨_, _, _, e⟩
        · exact ⟨_, _, _, e⟩
      subst hvv
      go_wp2_with fail
      refine bodyPost_ret (v := .tuple #[.slice aa nn cc, .int .i64 0, .int .i64 0]) (by simp [results, Tryz.results16, go_sem]) rfl ?_
      rw [HGD.out]
      exact ⟨onB' HR.out.2 HQ.out.2.2.1, aa, nn, cc, rfl, own_base HQ.out.2.1 HR.out.2.size⟩

end Go.Proofs.YtbnmmbjajheedaaGreatDoor

/- The document's example. -/
namespace Go.Proofs.YtbnmmbjajheedaaGreatDoor
open Go.RowKit Go.Lib

def exB : ByteArray := ⟨#[102, 32, 120, 61, 120, 43, 46, 35, 45, 49, 45, 45, 121]⟩
def exT : List (Tk × Int) := [(⟨1, [102], false, 0⟩, 1), (⟨1, [120], false, 0⟩, 1), (⟨6, [61], false, 0⟩, 1), (⟨1, [120], false, 0⟩, 1), (⟨4, [43, 46], false, 0⟩, 1), (⟨3, [35, 45, 49], false, 18446744073709551615⟩, 1)]
set_option maxRecDepth 100000 in
theorem ex_lex : lexL exB.data.toList = .good exT := by kernel_rfl

end Go.Proofs.YtbnmmbjajheedaaGreatDoor

/- A token is the same as itself. -/
namespace Go.Proofs.YtbnmmbjajheedaaGreatDoor
open Go.RowKit Go.Lib

theorem num_refl (d : Nat) (f : Bool) (x : Int) (w : World) : (Op.equalIn (d + 2) 39 (.agg #[.bool f, .int .u64 x]) (.agg #[.bool f, .int .u64 x])).run Tryz.prog w = .ok true w := by
  have hf : Tryz.prog.underlying 39 = some (.struct (Tryz.prog.fieldsOf 39)) := by kernel_rfl
  have q1 : ∀ (w : World), (Op.equalIn (d + 1) 4 (.bool f) (.bool f)).run Tryz.prog w = .ok true w := fun w => by simp [Op.equalIn, run_underlying Tryz.underlying4, go_sem]
  have q2 : ∀ (w : World), (Op.equalIn (d + 1) 37 (.int .u64 x) (.int .u64 x)).run Tryz.prog w = .ok true w := fun w => by rw [run_equalIn_int w d 37 .u64 .u64 x x Tryz.underlying37]; simp
  rw [run_equalIn_struct w (d + 1) 39 _ _ hf (by kernel_rfl)]
  generalize hE : Op.equalIn (d + 1) 4 = E at *
  generalize hF : Op.equalIn (d + 1) 37 = F at *
  have p0 : ∀ (w : World), (part 4 #[.bool f, .int .u64 x] 0).run Tryz.prog w = .ok (.bool f) w := by intro w; simp [part, Tryz.isAgg4, go_sem]
  have p1 : ∀ (w : World), (part 37 #[.bool f, .int .u64 x] 1).run Tryz.prog w = .ok (.int .u64 x) w := by intro w; simp [part, Tryz.isAgg37, go_sem]
  have hl : (Tryz.prog.fieldsOf 39).toList = [⟨"Float", 4, 0, false, "", "", 0⟩, ⟨"Bits", 37, 1, false, "", "", 8⟩] := by kernel_rfl
  rw [hl]
  simp [Op.eqFields, hE, hF, p0, p1, q1, q2]

def tokV (k : Int) (b : ByteArray) (f : Bool) (x line : Int) : Array Value := #[.int .i64 k, .string b, .bool f, .int .u64 x, .int .i64 line]
theorem tok_refl' (d : Nat) (k : Int) (b : ByteArray) (f : Bool) (x line : Int) (w : World) : (Op.equalIn (d + 4) 41 (.agg (tokV k b f x line)) (.agg (tokV k b f x line))).run Tryz.prog w = .ok true w := by
  have hf : Tryz.prog.underlying 41 = some (.struct (Tryz.prog.fieldsOf 41)) := by kernel_rfl
  have q1 : ∀ (y : Int) (w : World), (Op.equalIn (d + 3) 3 (.int .i64 y) (.int .i64 y)).run Tryz.prog w = .ok true w := fun y w => by rw [run_equalIn_int w (d + 2) 3 .i64 .i64 y y Tryz.underlying3]; simp
  have q2 : ∀ (w : World), (Op.equalIn (d + 3) 9 (.string b) (.string b)).run Tryz.prog w = .ok true w := fun w => by rw [run_equalIn_string w (d + 2) 9 b b Tryz.underlying9]; simp
  have q3 : ∀ (w : World), (Op.equalIn (d + 3) 39 (.agg #[.bool f, .int .u64 x]) (.agg #[.bool f, .int .u64 x])).run Tryz.prog w = .ok true w := fun w => num_refl (d + 1) f x w
  rw [run_equalIn_struct w (d + 3) 41 _ _ hf (by kernel_rfl)]
  generalize hE : Op.equalIn (d + 3) 3 = E at *
  generalize hF : Op.equalIn (d + 3) 9 = F at *
  generalize hG : Op.equalIn (d + 3) 39 = G at *
  have p0 : ∀ (w : World), (part 3 (tokV k b f x line) 0).run Tryz.prog w = .ok (.int .i64 k) w := by intro w; simp [part, tokV, Tryz.isAgg3, go_sem]
  have p1 : ∀ (w : World), (part 9 (tokV k b f x line) 1).run Tryz.prog w = .ok (.string b) w := by intro w; simp [part, tokV, Tryz.isAgg9, go_sem]
  have p2 : ∀ (w : World), (part 39 (tokV k b f x line) 2).run Tryz.prog w = .ok (.agg #[.bool f, .int .u64 x]) w := by intro w; simp [part, tokV, Tryz.isAgg39, Tryz.sizeOf39, go_sem]
  have p4 : ∀ (w : World), (part 3 (tokV k b f x line) 4).run Tryz.prog w = .ok (.int .i64 line) w := by intro w; simp [part, tokV, Tryz.isAgg3, go_sem]
  have hl : (Tryz.prog.fieldsOf 41).toList = [⟨"Kind", 3, 0, false, "", "", 0⟩, ⟨"Text", 9, 1, false, "", "", 8⟩, ⟨"Num", 39, 2, false, "", "", 24⟩, ⟨"Line", 3, 4, false, "", "", 40⟩] := by kernel_rfl
  rw [hl]
  simp [Op.eqFields, hE, hF, hG, p0, p1, p2, p4, q1, q2, q3]
theorem tok_refl (k : Int) (b : ByteArray) (f : Bool) (x line : Int) (w : World) : (Op.equalIn 10000 41 (.agg #[.int .i64 k, .string b, .bool f, .int .u64 x, .int .i64 line]) (.agg #[.int .i64 k, .string b, .bool f, .int .u64 x, .int .i64 line])).run Tryz.prog w = .ok true w := tok_refl' 9996 k b f x line w

/-- All lines further on. -/
def Res.shift (n : Int) : Res → Res
  | .good T => .good (T.map fun x => (x.1, x.2 + n))
  | .bad e l => .bad e (l + n)
theorem lexA_shift (n : Int) : ∀ (f : Nat) (l : List UInt8) (line : Int) (acc : List (Tk × Int)), lexA f l (line + n) (acc.map fun x => (x.1, x.2 + n)) = (lexA f l line acc).shift n
  | 0, l, line, acc => by unfold lexA; rfl
  | f + 1, [], line, acc => by unfold lexA; rfl
  | f + 1, c :: r, line, acc => by
    unfold lexA
    split
    · rw [show line + n + 1 = line + 1 + n by omega]
      exact lexA_shift n f _ _ _
    · split
      · exact lexA_shift n f _ _ _
      · split
        · split
          · rfl
          · exact lexA_shift n f _ _ _
        · split
          · rw [List.length_map]
            split
            · rfl
            · rw [show List.map (fun x => (x.1, x.2 + n)) acc ++ [((readL (c :: r)).1, line + n)] = (acc ++ [((readL (c :: r)).1, line)]).map (fun x => (x.1, x.2 + n)) by simp]
              exact lexA_shift n f _ _ _
          · rfl
theorem lexL_nl (l : List UInt8) : ∀ n : Nat, lexL (List.replicate n 10 ++ l) = (lexL l).shift n
  | 0 => by
    show lexL l = (lexL l).shift 0
    cases lexL l with
    | good T => simp [Res.shift]
    | bad e l => simp [Res.shift]
  | n + 1 => by
    have ih := lexL_nl l n
    rw [List.replicate_succ, List.cons_append]
    show lexA ((List.replicate n 10 ++ l).length + 1 + 1) (10 :: (List.replicate n 10 ++ l)) 1 [] = _
    have e0 : lexA ((List.replicate n 10 ++ l).length + 1 + 1) (10 :: (List.replicate n 10 ++ l)) 1 [] = lexA ((List.replicate n 10 ++ l).length + 1) (List.replicate n 10 ++ l) (1 + 1) [] := by
      generalize List.replicate n 10 ++ l = m
      conv => lhs; unfold lexA
      simp
    refine e0.trans ?_
    have h := lexA_shift 1 ((List.replicate n 10 ++ l).length + 1) (List.replicate n 10 ++ l) 1 []
    simp only [List.map_nil] at h
    rw [h]
    show (lexL (List.replicate n 10 ++ l)).shift 1 = _
    rw [ih]
    cases lexL l with
    | good T =>
      simp only [Res.shift, List.map_map]
      congr 1
      refine List.map_congr_left fun x _ => ?_
      simp
      omega
    | bad e l =>
      simp only [Res.shift]
      congr 1
      omega

end Go.Proofs.YtbnmmbjajheedaaGreatDoor

/- Tokens that were told, read again; the law's example; bounds of lines. -/
namespace Go.Proofs.YtbnmmbjajheedaaGreatDoor
open Go.RowKit Go.Lib

theorem flatT_get : ∀ {T : List (Tk × Int)} {q : Nat} (hq : q < T.length), (flatT T)[q * 5]? = some (.int .i64 (T[q]).1.k) ∧ (flatT T)[q * 5 + 1]? = some (.string ⟨(T[q]).1.t.toArray⟩) ∧ (flatT T)[q * 5 + 2]? = some (.bool (T[q]).1.f) ∧ (flatT T)[q * 5 + 3]? = some (.int .u64 (T[q]).1.x) ∧ (flatT T)[q * 5 + 4]? = some (.int .i64 (T[q]).2)
  | [], q, hq => by cases hq
  | x :: T, 0, _ => ⟨rfl, rfl, rfl, rfl, rfl⟩
  | x :: T, q + 1, hq => by
    obtain ⟨h0, h1, h2, h3, h4⟩ := flatT_get (T := T) (q := q) (by simpa using hq)
    have e : ∀ c, (flatT (x :: T))[(q + 1) * 5 + c]? = (flatT T)[q * 5 + c]? := fun c => by
      rw [show (q + 1) * 5 + c = (q * 5 + c) + 1 + 1 + 1 + 1 + 1 by omega]
      simp [flatT]
    have e0 := e 0
    simp only [Nat.add_zero] at e0
    exact ⟨e0.trans h0, (e 1).trans h1, (e 2).trans h2, (e 3).trans h3, (e 4).trans h4⟩

/-- A token as it lies. -/
structure TokAt (W : World) (g : Nat) (j : Nat) (x : Tk × Int) : Prop where
  c0 : W.cell? ⟨g, j * 5, none⟩ = some (.int .i64 x.1.k)
  c1 : W.cell? ⟨g, j * 5 + 1, none⟩ = some (.string ⟨x.1.t.toArray⟩)
  c2 : W.cell? ⟨g, j * 5 + 2, none⟩ = some (.bool x.1.f)
  c3 : W.cell? ⟨g, j * 5 + 3, none⟩ = some (.int .u64 x.1.x)
  c4 : W.cell? ⟨g, j * 5 + 4, none⟩ = some (.int .i64 x.2)
theorem TokAt.later {W W' : World} {g j : Nat} {x : Tk × Int} (h : TokAt W g j x) (hb : Below W.heap.size W W') : TokAt W' g j x := ⟨later' hb h.c0, later' hb h.c1, later' hb h.c2, later' hb h.c3, later' hb h.c4⟩
theorem own_tok {W : World} {base : Nat} {a : Option Addr} {n c : Nat} {T : List (Tk × Int)} (h : W.ownsRow base 41 5 (.slice a n c) T.length (flatT T)) {j : Nat} (hj : j < T.length) : ∃ g, a = some ⟨g, 0, none⟩ ∧ TokAt W g j T[j] := by
  rcases h.2 with ⟨e, e2⟩ | ⟨g, cap, cur, e, -⟩
  · omega
  · cases e
    obtain ⟨f0, f1, f2, f3, f4⟩ := flatT_get hj
    have k : ∀ i v, (flatT T)[i]? = some v → W.cell? ⟨g, i, none⟩ = some v := fun i v hv => by
      have := h.cells rfl i v hv
      rw [Addr.add_lit] at this
      simpa using this
    exact ⟨g, rfl, k _ _ f0, k _ _ f1, k _ _ f2, k _ _ f3, k _ _ f4⟩
theorem own_n {W : World} {base : Nat} {a : Option Addr} {n c : Nat} {T : List (Tk × Int)} (h : W.ownsRow base 41 5 (.slice a n c) T.length (flatT T)) : n = T.length := by
  rcases h.2 with ⟨e, e2⟩ | ⟨g, cap, cur, e, -⟩
  · cases e; exact e2.symm
  · cases e; rfl

/-- Lines are within bounds. -/
def Bd (B : Int) : Res → Prop
  | .good T => ∀ x, x ∈ T → 0 ≤ x.2 ∧ x.2 ≤ B
  | .bad _ l => 0 ≤ l ∧ l ≤ B
theorem lexA_bd (B : Int) : ∀ (f : Nat) (l : List UInt8) (line : Int) (acc : List (Tk × Int)), 0 ≤ line → line + l.length ≤ B → (∀ x, x ∈ acc → 0 ≤ x.2 ∧ x.2 ≤ B) → Bd B (lexA f l line acc)
  | 0, l, line, acc, _, _, ha => by unfold lexA; exact ha
  | f + 1, [], line, acc, _, _, ha => by unfold lexA; exact ha
  | f + 1, c :: r, line, acc, h0, h1, ha => by
    simp only [List.length_cons] at h1
    unfold lexA
    split
    · exact lexA_bd B f _ _ _ (by omega) (by omega) ha
    · split
      · exact lexA_bd B f _ _ _ h0 (by omega) ha
      · split
        · split
          · exact ha
          · exact lexA_bd B f _ _ _ h0 (by rw [List.length_drop, List.length_cons]; omega) ha
        · split
          · split
            · exact ⟨h0, by omega⟩
            · refine lexA_bd B f _ _ _ h0 (by rw [List.length_drop, List.length_cons]; omega) fun x hx => ?_
              rcases List.mem_append.1 hx with hx | hx
              · exact ha x hx
              · rw [List.mem_singleton] at hx
                subst hx
                exact ⟨h0, by omega⟩
          · exact ⟨h0, by omega⟩
theorem lexL_bd (l : List UInt8) : Bd (1 + l.length) (lexL l) := lexA_bd _ _ _ _ _ (by omega) (by omega) (fun x hx => by cases hx)

end Go.Proofs.YtbnmmbjajheedaaGreatDoor

/- A token is not unlike itself; how many tokens there may be. -/
namespace Go.Proofs.YtbnmmbjajheedaaGreatDoor
open Go.RowKit Go.Lib

theorem own_max {W : World} {base : Nat} {v : Value} {n : Nat} {xs : List Value} (h : W.ownsRow base 41 5 v n xs) : n ≤ maxLen := by
  rcases h.2 with ⟨_, e2⟩ | ⟨g, cap, cur, e, hg, hb, h1, h2, -⟩
  · omega
  · exact Nat.le_trans h1 h2
theorem tok_neq (k : Int) (b : ByteArray) (f : Bool) (x line : Int) (w : World) : (binOp .neq 41 (.agg #[.int .i64 k, .string b, .bool f, .int .u64 x, .int .i64 line]) (.agg #[.int .i64 k, .string b, .bool f, .int .u64 x, .int .i64 line])).run Tryz.prog w = .ok (.bool false) w := by
  have he : (Op.equal 41 (.agg #[.int .i64 k, .string b, .bool f, .int .u64 x, .int .i64 line]) (.agg #[.int .i64 k, .string b, .bool f, .int .u64 x, .int .i64 line])).run Tryz.prog w = .ok true w := tok_refl k b f x line w
  generalize hq : Op.equal = E at he
  simp [binOp, hq, he]

end Go.Proofs.YtbnmmbjajheedaaGreatDoor

/- What Lex told, in one shape. -/
namespace Go.Proofs.YtbnmmbjajheedaaGreatDoor
open Go.RowKit Go.Lib

theorem cat_list (a b : ByteArray) : (a ++ b).data.toList = a.data.toList ++ b.data.toList := by simp
theorem rep_snoc (k : Nat) (c : UInt8) : List.replicate k c ++ [c] = List.replicate (k + 1) c := by
  rw [List.replicate_succ']

/-- What Lex told, in one shape. -/
theorem LexSaid.view {R : Res} {w w' : World} {e : Ending} (h : LexSaid R w e w') : ∃ (T : List (Tk × Int)) (a : Option Addr) (c : Nat) (er line : Int), e = .returned (.tuple #[.slice a T.length c, .int .i64 er, .int .i64 line]) ∧ w'.ownsRow w.heap.size 41 5 (.slice a T.length c) T.length (flatT T) ∧ Below w.heap.size w w' ∧ ((R = .good T ∧ er = 0 ∧ line = 0) ∨ (R = .bad er line ∧ T = [])) := by
  obtain ⟨hb, h⟩ := h
  cases R with
  | good T =>
    obtain ⟨a, n, c, he, hown⟩ := h
    obtain rfl := own_n hown
    exact ⟨T, a, c, 0, 0, he, hown, hb, Or.inl ⟨rfl, rfl, rfl⟩⟩
  | bad er line => exact ⟨[], none, 0, er, line, h, World.ownsRow_nil _ _ _ _, hb, Or.inr ⟨rfl, rfl⟩⟩
theorem view_shift {R : Res} {n : Int} {T T2 : List (Tk × Int)} {er er2 line line2 : Int} (h : (R = .good T ∧ er = 0 ∧ line = 0) ∨ (R = .bad er line ∧ T = [])) (h2 : (R.shift n = .good T2 ∧ er2 = 0 ∧ line2 = 0) ∨ (R.shift n = .bad er2 line2 ∧ T2 = [])) :
    er2 = er ∧ T2 = T.map (fun x => (x.1, x.2 + n)) ∧ (er = 0 ∨ line2 = line + n) := by
  rcases h with ⟨rfl, rfl, rfl⟩ | ⟨rfl, rfl⟩
  · rcases h2 with ⟨e, rfl, rfl⟩ | ⟨e, rfl⟩
    · simp only [Res.shift, Res.good.injEq] at e
      exact ⟨rfl, e.symm, Or.inl rfl⟩
    · cases e
  · rcases h2 with ⟨e, rfl, rfl⟩ | ⟨e, rfl⟩
    · cases e
    · simp only [Res.shift, Res.bad.injEq] at e
      obtain ⟨rfl, rfl⟩ := e
      exact ⟨rfl, rfl, Or.inr rfl⟩

end Go.Proofs.YtbnmmbjajheedaaGreatDoor

/- What a token is: its kind is that of its first byte; which words are kept; lines that rise. -/
namespace Go.Proofs.YtbnmmbjajheedaaGreatDoor
open Go.RowKit Go.Lib

def Sm (c : UInt8) : Prop := 97 ≤ c.toNat ∧ c.toNat ≤ 122
def Cp (c : UInt8) : Prop := 65 ≤ c.toNat ∧ c.toNat ≤ 90
def Dg (c : UInt8) : Prop := 48 ≤ c.toNat ∧ c.toNat ≤ 57
/-- A token whose text begins with this byte. -/
inductive TkOk (y : Tk) (c : UInt8) : Prop where
  | name (k : y.k = 1) (s : Sm c) (w : wordF y.t = none) (f : y.f = false) (x : y.x = 0)
  | word (k : y.k = 5 ∨ y.k = 7) (s : Sm c) (w : wordF y.t = some y.k) (f : y.f = false) (x : y.x = 0)
  | con (k : y.k = 2) (s : Cp c) (f : y.f = false) (x : y.x = 0)
  | num (k : y.k = 3) (s : Dg c ∨ c.toNat = 35)
  | sign (k : y.k = 4 ∨ y.k = 6) (ns : ¬ Sm c) (nc : ¬ Cp c) (nd : ¬ Dg c) (nh : c.toNat ≠ 35) (f : y.f = false) (x : y.x = 0)

theorem small_in : ∀ c, c ∈ smallsB.data.toList → Sm c := by unfold Sm; decide
theorem cap_in : ∀ c, c ∈ capsB.data.toList → Cp c := by unfold Cp; decide
theorem dig_in : ∀ c, c ∈ digsB.data.toList → Dg c := by unfold Dg; decide
theorem sign_in : ∀ x, x ∈ signsB → (x.2 = 4 ∨ x.2 = 6) ∧ ∃ c, x.1.data.toList.head? = some c ∧ (¬ (97 ≤ c.toNat ∧ c.toNat ≤ 122) ∧ ¬ (65 ≤ c.toNat ∧ c.toNat ≤ 90) ∧ ¬ (48 ≤ c.toNat ∧ c.toNat ≤ 57) ∧ c.toNat ≠ 35) := by
  intro x hx
  simp only [signsB, List.mem_cons, List.not_mem_nil, or_false] at hx
  rcases hx with rfl | rfl | rfl | rfl | rfl | rfl | rfl | rfl | rfl | rfl | rfl | rfl | rfl | rfl | rfl | rfl | rfl | rfl | rfl | rfl | rfl
  all_goals exact ⟨by decide, _, rfl, by decide⟩
theorem word_some {t : List UInt8} {k : Int} (h : wordF t = some k) : (k = 5 ∨ k = 7) ∧ ∃ c r, t = c :: r ∧ Sm c := by
  unfold wordF kput at h
  repeat' split at h
  all_goals first
    | (rename_i e; cases h; subst e; exact ⟨by decide, _, _, rfl, by unfold Sm; decide⟩)
    | cases h
theorem kputs_in {f : List UInt8 → Option Int} {l : List UInt8} {u : Int} {r : List UInt8} {k : Int} (h : kputs f l u r = some k) : (∃ c, c ∈ l ∧ r = [c] ∧ k = u) ∨ f r = some k := by
  unfold kputs at h
  split at h
  · rename_i e
    obtain ⟨c, hc, he⟩ := e
    exact Or.inl ⟨c, hc, he, (Option.some.inj h).symm⟩
  · exact Or.inr h
theorem kputs_some {f : List UInt8 → Option Int} {l : List UInt8} {u : Int} {r : List UInt8} (h : kputs f l u r = none) : f r = none := by
  unfold kputs at h
  split at h
  · cases h
  · exact h
/-- Where a kind stands. -/
theorem kind_some {t : List UInt8} {k : Int} (h : kindF t = some k) : (∃ c, t = [c] ∧ ((k = 1 ∧ Sm c) ∨ (k = 2 ∧ Cp c) ∨ (k = 3 ∧ Dg c))) ∨ wordF t = some k := by
  rcases kputs_in h with ⟨c, hc, e, rfl⟩ | h
  · exact Or.inl ⟨c, e, Or.inr (Or.inr ⟨rfl, dig_in c hc⟩)⟩
  rcases kputs_in h with ⟨c, hc, e, rfl⟩ | h
  · exact Or.inl ⟨c, e, Or.inr (Or.inl ⟨rfl, cap_in c hc⟩)⟩
  rcases kputs_in h with ⟨c, hc, e, rfl⟩ | h
  · exact Or.inl ⟨c, e, Or.inl ⟨rfl, small_in c hc⟩⟩
  exact Or.inr h
theorem kind_none {t : List UInt8} (h : kindF t = none) : wordF t = none := kputs_some (kputs_some (kputs_some h))

/-- What begins with a run: its kind, and where it comes from. -/
theorem kindOf_ok {c : UInt8} {r : List UInt8} (h : kindOf (c :: r) ≠ 0) : ∃ t, runL (c :: r) = c :: t ∧ ((kindOf (c :: r) = 1 ∧ Sm c ∧ wordF (c :: t) = none) ∨ ((kindOf (c :: r) = 5 ∨ kindOf (c :: r) = 7) ∧ Sm c ∧ wordF (c :: t) = some (kindOf (c :: r))) ∨ (kindOf (c :: r) = 2 ∧ Cp c) ∨ (kindOf (c :: r) = 3 ∧ Dg c)) := by
  cases hr : runL (c :: r) with
  | nil => exact absurd (kindOf_nil hr) h
  | cons d t =>
    obtain rfl : d = c := by
      have := List.takeWhile_prefix (p := inRun) (l := c :: r)
      unfold runL at hr
      rw [hr] at this
      exact (List.cons_prefix_cons.1 this).1
    refine ⟨t, rfl, ?_⟩
    unfold kindOf at h ⊢
    rw [hr] at h ⊢
    cases hk : kindF (d :: t) with
    | some k =>
      simp only [hk, Option.isSome_some, if_true, Option.getD_some] at h ⊢
      rcases kind_some hk with ⟨c', e, hh⟩ | hw
      · simp only [List.cons.injEq] at e
        obtain ⟨rfl, rfl⟩ := e
        rcases hh with ⟨rfl, hs⟩ | ⟨rfl, hs⟩ | ⟨rfl, hs⟩
        · exact Or.inl ⟨rfl, hs, word_one d⟩
        · exact Or.inr (Or.inr (Or.inl ⟨rfl, hs⟩))
        · exact Or.inr (Or.inr (Or.inr ⟨rfl, hs⟩))
      · obtain ⟨hk57, c', r', e, hs⟩ := word_some hw
        simp only [List.cons.injEq] at e
        obtain ⟨rfl, rfl⟩ := e
        exact Or.inr (Or.inl ⟨hk57, hs, hw⟩)
    | none =>
      have hw := kind_none hk
      simp only [hk, Option.isSome_none, Bool.false_eq_true, if_false, List.take_succ_cons, List.take_zero] at h ⊢
      cases hk1 : kindF [d] with
      | none => rw [hk1] at h; exact absurd rfl h
      | some k =>
        simp only [Option.getD_some]
        rcases kind_some hk1 with ⟨c', e, hh⟩ | hw1
        · simp only [List.cons.injEq, and_true] at e
          subst e
          rcases hh with ⟨rfl, hs⟩ | ⟨rfl, hs⟩ | ⟨rfl, hs⟩
          · exact Or.inl ⟨rfl, hs, hw⟩
          · exact Or.inr (Or.inr (Or.inl ⟨rfl, hs⟩))
          · exact Or.inr (Or.inr (Or.inr ⟨rfl, hs⟩))
        · rw [word_one] at hw1
          cases hw1

theorem numT_kind {t : List UInt8} (h : (numT t).2 = 0) : (numT t).1.k = 3 := by
  unfold numT at *
  split
  · rfl
  · rename_i g
    rw [if_neg g] at h
    exact absurd h g

/-- EACH TOKEN THAT IS TAKEN IS OF ITS KIND. -/
theorem read_ok {c : UInt8} {r : List UInt8} (h : (readL (c :: r)).2 = 0) : ∃ t, (readL (c :: r)).1.t = c :: t ∧ TkOk (readL (c :: r)).1 c := by
  unfold readL at *
  cases hs : signL (c :: r) with
  | some x =>
    unfold signL at hs
    obtain ⟨hk, d, hd, h1, h2, h3, h4⟩ := sign_in x (List.mem_of_find?_eq_some hs)
    have hp := List.find?_some hs
    cases hx : x.1.data.toList with
    | nil => rw [hx] at hd; cases hd
    | cons d' t =>
      rw [hx] at hd hp
      obtain rfl := Option.some.inj hd
      unfold hasPrefix at hp
      obtain ⟨rfl, -⟩ := List.cons_prefix_cons.1 (List.isPrefixOf_iff_prefix.1 hp)
      exact ⟨t, hx, .sign hk h1 h2 h3 h4 rfl rfl⟩
  | none =>
    rw [hs] at h
    simp only at h ⊢
    split at h
    · rename_i g
      rw [if_pos g]
      have hc : c = 35 := by
        unfold hasPrefix at g
        exact (List.cons_prefix_cons.1 (List.isPrefixOf_iff_prefix.1 g)).1.symm
      have hl : ∃ n t, markedL (c :: r) = (c :: t).take (n + 1) := by
        unfold markedL
        have h1 := trimP_le r [45]
        simp only [List.drop_succ_cons, List.drop_zero, List.length_cons]
        refine ⟨r.length - (trimPrefix r [45]).length + (runL (trimPrefix r [45])).length, r, ?_⟩
        congr 1
        omega
      obtain ⟨n, t, hl⟩ := hl
      rw [List.take_succ_cons] at hl
      refine ⟨t.take n, (numT_ok h).trans hl, .num (numT_kind h) (Or.inr (by rw [hc]; rfl))⟩
    · rename_i g
      rw [if_neg g]
      unfold readR at *
      split at h
      · cases h
      · rename_i g0
        rw [if_neg g0]
        obtain ⟨t, hr, hh⟩ := kindOf_ok g0
        split at h
        · rename_i g3
          rw [if_pos g3]
          refine ⟨t, (numT_ok h).trans hr, .num (numT_kind h) (Or.inl ?_)⟩
          rcases hh with ⟨e, -⟩ | ⟨e, -⟩ | ⟨e, -⟩ | ⟨-, e⟩
          · omega
          · omega
          · omega
          · exact e
        · rename_i g3
          rw [if_neg g3]
          split at h
          · cases h
          · rename_i g16
            rw [if_neg g16]
            refine ⟨t, hr, ?_⟩
            rcases hh with ⟨e, hs, hw⟩ | ⟨e, hs, hw⟩ | ⟨e, hs⟩ | ⟨e, -⟩
            · exact .name e hs (by simpa [hr] using hw) rfl rfl
            · exact .word e hs (by simpa [hr] using hw) rfl rfl
            · exact .con e hs rfl rfl
            · exact absurd e g3

/-- Tokens as they should be. -/
structure ToksOk (T : List (Tk × Int)) : Prop where
  ok : ∀ x, x ∈ T → 1 ≤ x.2 ∧ ∃ c t, x.1.t = c :: t ∧ TkOk x.1 c
  up : T.Pairwise fun a b => a.2 ≤ b.2
theorem lexA_ok : ∀ (f : Nat) (l : List UInt8) (line : Int) (acc T : List (Tk × Int)), 1 ≤ line → ToksOk acc → (∀ x, x ∈ acc → x.2 ≤ line) → lexA f l line acc = .good T → ToksOk T
  | 0, l, line, acc, T, _, ha, _, h => by unfold lexA at h; cases h; exact ha
  | f + 1, [], line, acc, T, _, ha, _, h => by unfold lexA at h; cases h; exact ha
  | f + 1, c :: r, line, acc, T, h0, ha, hl, h => by
    unfold lexA at h
    split at h
    · exact lexA_ok f _ _ _ _ (by omega) ha (fun x hx => by have := hl x hx; omega) h
    · split at h
      · exact lexA_ok f _ _ _ _ h0 ha hl h
      · split at h
        · split at h
          · cases h; exact ha
          · exact lexA_ok f _ _ _ _ h0 ha hl h
        · split at h
          · rename_i hr
            split at h
            · cases h
            · obtain ⟨t, ht, hk⟩ := read_ok hr
              refine lexA_ok f _ _ _ _ h0 ⟨fun x hx => ?_, ?_⟩ (fun x hx => ?_) h
              · rcases List.mem_append.1 hx with hx | hx
                · exact ha.ok x hx
                · rw [List.mem_singleton] at hx
                  subst hx
                  exact ⟨h0, c, t, ht, hk⟩
              · refine List.pairwise_append.2 ⟨ha.up, List.pairwise_singleton _ _, fun a ha' b hb => ?_⟩
                rw [List.mem_singleton] at hb
                subst hb
                exact hl a ha'
              · rcases List.mem_append.1 hx with hx | hx
                · exact hl x hx
                · rw [List.mem_singleton] at hx
                  subst hx
                  exact Int.le_refl _
          · cases h
theorem lexL_ok {l : List UInt8} {T : List (Tk × Int)} (h : lexL l = .good T) : ToksOk T := lexA_ok _ _ _ _ _ (by omega) ⟨fun x hx => (by cases hx), List.Pairwise.nil⟩ (fun x hx => by cases hx) h
end Go.Proofs.YtbnmmbjajheedaaGreatDoor
