/- The program's Lex: which tokens it tells. -/
import Derived.Test.YtkeeglpbhjnmdaaDoorLxH
import Derived.WalkMore
namespace Go.Proofs.YtkeeglpbhjnmdaaDoor
open Go.RowKit Go.Lib

theorem Tryd.info_token : (Tryd.prog.info? 35).map (fun i => (i.zero, i.size, i.bytes)) = some (some (.agg #[.int .i64 0, .string ⟨#[]⟩, .bool false, .int .u64 0, .int .i64 0]), 5, 48) := by kernel_rfl
theorem info_parts {P : Program} {e : TypeId} {z : Value} {n b : Nat} (h : (P.info? e).map (fun i => (i.zero, i.size, i.bytes)) = some (some z, n, b)) : ∃ i, P.info? e = some i ∧ i.zero = some z ∧ i.size = n ∧ i.bytes = b := by
  cases hi : P.info? e with
  | none => rw [hi] at h; cases h
  | some i =>
    rw [hi] at h
    simp only [Option.map_some, Option.some.injEq, Prod.mk.injEq] at h
    exact ⟨i, rfl, h.1, h.2.1, h.2.2⟩

/-- A reader that was made. -/
def ReaderSaid (w : World) (e : Ending) (w' : World) : Prop :=
  ∃ b kb, e = .returned (.func (.func 23) #[] #[.pointer (some ⟨b, 0, none⟩)]) ∧ w'.cell? ⟨b, 0, none⟩ = some (.map (some kb)) ∧ KMap w' kb 72 kindF ∧ Below w.heap.size w w'
set_option maxHeartbeats 2000000 in
set_option maxRecDepth 100000 in
theorem reader_any (w : World) : Calls Tryd.prog 15 #[] w (ReaderSaid w) := by
  go_enter Tryd.func15, Tryd.ntmps15
  go_wp2_with fail
  refine (kinds_any w).mono ?_
  rintro e w2 ⟨kb, rfl, hk, hm, hb⟩
  have hx := (Below.refl w2.heap.size w2).alloc (Nat.le_refl _) (.cells #[.map (some kb)] 53)
  have HB := Lib.hid (And.intro (hm.later hx) (onB' hb hx))
  clear hk hm hb hx
  go_wp2_with fail
  go_ret
  exact ⟨w2.heap.size, kb, rfl, by simp [go_sem], HB.out.1, HB.out.2⟩

theorem letter_at (s : ByteArray) (k : Nat) (hk : k < s.size) (w : World) : (Instr.index 9 (.string s) (.int .i64 (k : Int))).run Tryd.prog w = .ok (.int .u8 (s.data.toList.getD k 0).toNat) w := by
  rw [run_index_string w 9 s .i64 _ Tryd.underlying9, dif_pos (by omega)]
  have hz := Lib.size_eq s
  have e : s[((k : Int)).toNat]'(by omega) = s.data.toList.getD k 0 := by
    simp only [Int.toNat_natCast]
    rw [List.getD, List.getElem?_eq_getElem (by omega)]
    rfl
  rw [e]

/-- What Lex leaves. -/
def LexSaid (R : Res) (w : World) (e : Ending) (w' : World) : Prop :=
  Below w.heap.size w w' ∧ match R with
  | .good T => ∃ a n c, e = .returned (.tuple #[.slice a n c, .int .i64 0, .int .i64 0]) ∧ w'.ownsRow w.heap.size 35 5 (.slice a n c) T.length (flatT T)
  | .bad k line => e = .returned (.tuple #[.slice none 0 0, .int .i64 k, .int .i64 line])

def blanksB : ByteArray := ⟨#[9, 13, 32]⟩
theorem blank_iff (c : UInt8) : (0 ≤ indexByte blanksB.data.toList c) ↔ (c = 9 ∨ c = 13 ∨ c = 32) := by
  simp only [blanksB, indexByte]
  by_cases h1 : c = 9
  · subst h1; decide
  · by_cases h2 : c = 13
    · subst h2; decide
    · by_cases h3 : c = 32
      · subst h3; decide
      · have e1 : ((9 : UInt8) == c) = false := by simpa using Ne.symm h1
        have e2 : ((13 : UInt8) == c) = false := by simpa using Ne.symm h2
        have e3 : ((32 : UInt8) == c) = false := by simpa using Ne.symm h3
        simp [e1, e2, e3, h1, h2, h3]

theorem own_same {base : Nat} {e : TypeId} {size : Nat} {v : Value} {n : Nat} {xs : List Value} {W W' : World} (h : W.ownsRow base e size v n xs) (hk : ∀ g, v.ownBlock = some g → W'.heap[g]? = W.heap[g]?) : W'.ownsRow base e size v n xs := by
  refine ⟨h.1, ?_⟩
  rcases h.2 with e | ⟨g, cap, cur, rfl, hg, hb, hr⟩
  · exact Or.inl e
  · exact Or.inr ⟨g, cap, cur, rfl, hg, (hk g rfl).trans hb, hr⟩
theorem own_base {base base' : Nat} {e : TypeId} {size : Nat} {v : Value} {n : Nat} {xs : List Value} {W : World} (h : W.ownsRow base e size v n xs) (hb : base' ≤ base) : W.ownsRow base' e size v n xs := by
  refine ⟨h.1, ?_⟩
  rcases h.2 with e | ⟨g, cap, cur, rfl, hg, hr⟩
  · exact Or.inl e
  · exact Or.inr ⟨g, cap, cur, rfl, Nat.le_trans hb hg, hr⟩
theorem own_below {base : Nat} {e : TypeId} {size : Nat} {v : Value} {n : Nat} {xs : List Value} {W W' : World} (h : W.ownsRow base e size v n xs) (hb : Below W.heap.size W W') : W'.ownsRow base e size v n xs :=
  own_same h fun g hg => hb.block g (h.lt g hg).2
theorem index_pos {c : UInt8} {r : List UInt8} (h : c ≠ 10) : indexByte (c :: r) 10 < 0 ∨ 1 ≤ indexByte (c :: r) 10 := by
  obtain ⟨h1, h2, h3, h4⟩ := index_le r 10
  unfold indexByte
  have e : (c == 10) = false := by simpa using h
  rw [e]
  simp only [Bool.false_eq_true, if_false]
  by_cases g2 : (indexByte r 10 == -1) = true
  · rw [if_pos g2]
    exact Or.inl (by decide)
  · rw [if_neg g2]
    have g3 : indexByte r 10 ≠ -1 := by simpa using g2
    exact Or.inr (by omega)
theorem read_tk (s : ByteArray) (hs : s.size ≤ 100000) (h1 : 1 ≤ s.size) (b kb : Nat) (w : World) (hR : Rd b kb w) (k : Int) (t : List UInt8) (f : Bool) (x err : Int) (hn : readL s.data.toList = (⟨k, t, f, x⟩, err)) :
    Calls Tryd.prog 23 #[.string s, .pointer (some ⟨b, 0, none⟩)] w fun e w' => ∃ b : ByteArray, e = .returned (.tuple #[.agg #[.int .i64 k, .string b, .bool f, .int .u64 x, .int .i64 0], .int .i64 err]) ∧ b.data.toList = t ∧ Below w.heap.size w w' := by
  refine (read_any s hs h1 b kb w hR).mono ?_
  rw [hn]
  rintro e w' ⟨b, he, hb, h⟩
  exact ⟨b, he, hb, h⟩
theorem byte_back (c : UInt8) : ((c.toNat : Int)).toNat.toUInt8 = c := by simp

set_option maxHeartbeats 16000000 in
set_option maxRecDepth 100000 in
theorem lex_any (s : ByteArray) (hs : s.size ≤ 100000) (w : World) (hS : SG w) (hE : EE w) : Calls Tryd.prog 10 #[.string s] w (LexSaid (lexL s.data.toList) w) := by
  obtain ⟨i0, hi0, hz0, hzs, hzb⟩ := info_parts Tryd.info_token
  have HSE := Lib.hid (And.intro hS hE)
  clear hS hE
  go_enter Tryd.func10, Tryd.ntmps10
  go_wp2_with fail
  go_step3
  go_wp2_with fail
  refine (reader_any w).mono ?_
  rintro e W ⟨b, kb, rfl, hm, hk, hb⟩
  have HR := Lib.hid (show Rd b kb W ∧ Below w.heap.size w W from ⟨⟨hm, hk, HSE.out.1.below hb, HSE.out.2.below hb⟩, hb⟩)
  clear hm hk hb HSE
  go_wp2_with fail
  go_step3
  go_wp2_with fail
  have hsz := size_eq s
  have HF0 := Lib.hid (show lexA (s.size + 1) (s.data.toList.drop 0) 1 [] = lexL s.data.toList from by unfold lexL; rw [hsz, List.drop_zero])
  clear hsz
  go_loopw [6, 7, 8] (fun s6 s7 s8 wr => ∃ (k : Nat) (line : Int) (acc : List (Tk × Int)) (vv : Value) (f : Nat), k ≤ s.size ∧ vv = s6 ∧ s7 = .int .i64 k ∧ s8 = .int .i64 line ∧ s.size - k < f ∧ lexA f (s.data.toList.drop k) line acc = lexL s.data.toList ∧ wr.ownsRow W.heap.size 35 5 vv acc.length (flatT acc) ∧ Below W.heap.size W wr ∧ Rd b kb wr ∧ 0 ≤ line ∧ line ≤ 1 + k ∧ acc.length ≤ 4096) (fun _ s7 _ _ => s.size - (RowKit.intOf s7).toNat)
  case atStart => exact ⟨0, 1, [], _, s.size + 1, Nat.zero_le _, rfl, rfl, rfl, by omega, HF0.out, World.ownsRow_nil _ _ _ _, Below.refl _ _, HR.out.1, by omega, by omega, by simp⟩
  case round =>
    clear HF0
    obtain ⟨k, line, acc, vv, f, hk, rfl, rfl, rfl, hf, hR, hown, hbw, hrd, hl0, hl1, hacc⟩ := hrel
    have HQ := Lib.hid (And.intro hR (And.intro hown (And.intro hbw hrd)))
    clear hR hown hbw hrd
    by_cases hlt : k < s.size
    · have hlt' : (k : Int) < (s.size : Int) := by omega
      have hsz := size_eq s
      obtain ⟨c, r, hcr⟩ : ∃ c r, s.data.toList.drop k = c :: r := by
        rw [List.drop_eq_getElem_cons (by omega)]
        exact ⟨_, _, rfl⟩
      have hrl : r.length + 1 = s.size - k := by
        have := congrArg List.length hcr
        rw [List.length_drop, ← hsz] at this
        simp only [List.length_cons] at this
        omega
      have hrt : r = s.data.toList.drop (k + 1) := by
        have := congrArg List.tail hcr
        rw [List.tail_drop] at this
        exact this.symm
      obtain ⟨g, rfl⟩ : ∃ g, f = g + 1 := ⟨f - 1, by omega⟩
      have hstep := HQ.out.1
      rw [hcr] at hstep
      unfold lexA at hstep
      obtain ⟨d, hd⟩ : ∃ d : ByteArray, s.extract k s.size = d := ⟨_, rfl⟩
      have hdl : d.data.toList = c :: r := by rw [← hd, tail_list, hcr]
      have hdz : d.size = s.size - k := by rw [size_eq, hdl, List.length_cons, hrl]
      have h0 : 0 < d.size := by omega
      have hc0 : d[0]'h0 = c := by
        have : d.data.toList[0]? = some (d[0]'h0) := List.getElem?_eq_getElem (by simpa using h0)
        rw [hdl] at this
        simpa using this.symm
      have HST := Lib.hid (And.intro hstep (And.intro hdl (And.intro hdz (And.intro hrl (And.intro hrt hcr)))))
      clear hstep hdl hrl hrt hcr hsz hdz
      have b1 : (0 : Int) ≤ (k : Int) := by omega
      have b2 : (k : Int) ≤ (s.size : Int) := by omega
      have el : IntKind.i64.wrap (line + 1) = line + 1 := by rw [IntKind.wrap_i64]; omega
      have ek : IntKind.i64.wrap ((k : Int) + 1) = (k : Int) + 1 := by rw [IntKind.wrap_i64]; omega
      by_cases c10 : c = 10
      · have f10 : ((c.toNat : Int) == 10) = true := by subst c10; rfl
        have hnx := HST.out.1
        rw [if_pos c10, HST.out.2.2.2.2.1] at hnx
        have HN := Lib.hid hnx
        clear hnx c10
        go_wp2_with fail
        exact ⟨⟨k + 1, line + 1, acc, vv, g, by omega, rfl, by go_num, rfl, by omega, HN.out, HQ.out.2.1, HQ.out.2.2.1, HQ.out.2.2.2, by omega, by omega, hacc⟩, by simp [RowKit.intOf]; omega⟩
      · have f10 : ((c.toNat : Int) == 10) = false := by
          have : c.toNat ≠ 10 := fun e => c10 (UInt8.toNat_inj.1 (by rw [e]; rfl))
          simp
          omega
        have hnx := HST.out.1
        rw [if_neg c10] at hnx
        have HN := Lib.hid hnx
        have HIB := Lib.hid (fun W => Tryd.strings_IndexByte blanksB (c.toNat : Int) W)
        have hbk := byte_back c
        rw [hbk] at HIB
        have HBI := Lib.hid (blank_iff c)
        have HC10 := Lib.hid c10
        clear hnx hbk c10
        go_wp2_with fail
        refine (HIB.out wr).mono ?_
        rintro e w5 ⟨rfl, rfl⟩
        by_cases cb : c = 9 ∨ c = 13 ∨ c = 32
        · have fb : decide (0 ≤ indexByte blanksB.data.toList c) = true := decide_eq_true (HBI.out.2 cb)
          have hn2 := HN.out
          rw [if_pos cb, HST.out.2.2.2.2.1] at hn2
          have HN2 := Lib.hid hn2
          clear hn2 cb
          generalize indexByte blanksB.data.toList c = ib at *
          go_wp2_with fail
          exact ⟨⟨k + 1, line, acc, vv, g, by omega, rfl, by go_num, rfl, by omega, HN2.out, HQ.out.2.1, HQ.out.2.2.1, HQ.out.2.2.2, by omega, by omega, hacc⟩, by simp [RowKit.intOf]; omega⟩
        · have fb : decide (0 ≤ indexByte blanksB.data.toList c) = false := decide_eq_false (fun h => cb (HBI.out.1 h))
          have hn2 := HN.out
          rw [if_neg cb] at hn2
          have HN2 := Lib.hid hn2
          clear hn2 cb HN HBI
          generalize indexByte blanksB.data.toList c = ib at *
          have HPR := Lib.hid (fun W => Tryd.strings_HasPrefix d ⟨#[45, 45]⟩ W)
          go_wp2_with fail
          refine (HPR.out w5).mono ?_
          rintro e w6 ⟨rfl, rfl⟩
          rw [HST.out.2.1]
          cases hpp : hasPrefix (c :: r) [45, 45] with
          | true =>
            have hn3 := HN2.out
            rw [if_pos hpp] at hn3
            have HN3 := Lib.hid hn3
            have HI2 := Lib.hid (fun W => Tryd.strings_IndexByte d 10 W)
            have hil := index_le (c :: r) 10
            have hip := index_pos (r := r) HC10.out
            clear hn3 hpp HN2
            go_wp2_with fail
            refine (HI2.out w6).mono ?_
            rintro e w7 ⟨rfl, rfl⟩
            rw [HST.out.2.1]
            rw [show ((10 : Int).toNat.toUInt8) = (10 : UInt8) from rfl]
            obtain ⟨i1, i2, i3, -⟩ := hil
            simp only [List.length_cons] at i1
            rw [HST.out.2.2.2.1] at i1
            generalize indexByte (c :: r) 10 = ix at *
            by_cases hix : ix < 0
            · have fix : decide (ix < 0) = true := decide_eq_true hix
              have hgd := HN3.out
              rw [if_pos hix] at hgd
              have HGD := Lib.hid hgd
              obtain ⟨aa, nn, cc, hvv⟩ : ∃ a n c, vv = .slice a n c := by
                rcases HQ.out.2.1.2 with ⟨e, _⟩ | ⟨g, cap, cur, e, _⟩
                · exact ⟨_, _, _, e⟩
                · exact ⟨_, _, _, e⟩
              subst hvv
              clear hgd hix hip
              go_wp2_with fail
              refine bodyPost_ret (v := .tuple #[.slice aa nn cc, .int .i64 0, .int .i64 0]) (by simp [results, Tryd.results10, go_sem]) rfl ?_
              rw [← HGD.out]
              exact ⟨onB' HR.out.2 HQ.out.2.2.1, aa, nn, cc, rfl, own_base HQ.out.2.1 HR.out.2.size⟩
            · have fix : decide (ix < 0) = false := decide_eq_false hix
              have hgd := HN3.out
              rw [if_neg hix, ← HST.out.2.2.2.2.2, List.drop_drop] at hgd
              have HGD := Lib.hid hgd
              obtain ⟨q, rfl⟩ : ∃ q : Nat, ix = q := ⟨ix.toNat, by omega⟩
              have eq1 : IntKind.i64.wrap ((k : Int) + (q : Int)) = (k : Int) + q := by rw [IntKind.wrap_i64]; omega
              clear hgd hix i2 i3
              go_wp2_with fail
              exact ⟨⟨k + q, line, acc, vv, g, by omega, rfl, by go_num, rfl, by omega, by have := HGD.out; simpa using this, HQ.out.2.1, HQ.out.2.2.1, HQ.out.2.2.2, by omega, by omega, hacc⟩, by simp [RowKit.intOf]; omega⟩
          | false =>
            have hn3 := HN2.out
            rw [if_neg (by rw [hpp]; decide)] at hn3
            obtain ⟨⟨kd, tx, ff, xx⟩, er, hrd⟩ : ∃ t er, readL (c :: r) = (t, er) := ⟨_, _, rfl⟩
            rw [hrd] at hn3
            have hlen : er = 0 → 1 ≤ tx.length ∧ tx.length ≤ s.size - k := fun e => by
              have := read_len (c := c) (r := r) (by rw [hrd]; exact e)
              rw [hrd] at this
              simp only [List.length_cons] at this
              rw [HST.out.2.2.2.1] at this
              exact this
            have HN3 := Lib.hid hn3
            have HRA := Lib.hid (read_tk d (by have := HST.out.2.2.1; omega) (by omega) b kb w6 HQ.out.2.2.2 kd tx ff xx er (by rw [HST.out.2.1]; exact hrd))
            have HLN := Lib.hid hlen
            clear hn3 hpp HN2 hrd hlen
            go_wp2_with fail
            refine HRA.out.mono ?_
            rintro e w7 ⟨bb, rfl, hbb, hb⟩
            have hx := (Below.refl w7.heap.size w7).alloc (Nat.le_refl _) (.cells #[.int .i64 kd, .string bb, .bool ff, .int .u64 xx, .int .i64 0] 35)
            have c0 : (w7.alloc (.cells #[.int .i64 kd, .string bb, .bool ff, .int .u64 xx, .int .i64 0] 35)).cell? ⟨w7.heap.size, 0, none⟩ = some (.int .i64 kd) := by simp [go_sem]
            have c1 : (w7.alloc (.cells #[.int .i64 kd, .string bb, .bool ff, .int .u64 xx, .int .i64 0] 35)).cell? ⟨w7.heap.size, 1, none⟩ = some (.string bb) := by simp [go_sem]
            have c2 : (w7.alloc (.cells #[.int .i64 kd, .string bb, .bool ff, .int .u64 xx, .int .i64 0] 35)).cell? ⟨w7.heap.size, 2, none⟩ = some (.bool ff) := by simp [go_sem]
            have c3 : (w7.alloc (.cells #[.int .i64 kd, .string bb, .bool ff, .int .u64 xx, .int .i64 0] 35)).cell? ⟨w7.heap.size, 3, none⟩ = some (.int .u64 xx) := by simp [go_sem]
            have c4 : (w7.alloc (.cells #[.int .i64 kd, .string bb, .bool ff, .int .u64 xx, .int .i64 0] 35)).cell? ⟨w7.heap.size, 4, none⟩ = some (.int .i64 0) := by simp [go_sem]
            have cz : ∀ j, (w7.alloc (.cells #[.int .i64 kd, .string bb, .bool ff, .int .u64 xx, .int .i64 0] 35)).frozen? ⟨w7.heap.size, j, none⟩ = false := fun j => by simp
            have zs : (w7.alloc (.cells #[.int .i64 kd, .string bb, .bool ff, .int .u64 xx, .int .i64 0] 35)).heap.size = w7.heap.size + 1 := by simp
            have hsw := hb.size
            have H8 := Lib.hid (And.intro (onB' (onB' HQ.out.2.2.1 hb) hx) (And.intro (own_below (own_below HQ.out.2.1 hb) hx) (And.intro ((HQ.out.2.2.2.later hb).later hx) (And.intro hbb (own_below HQ.out.2.1 hb)))))
            have hwb := HQ.out.2.2.1.size
            have H7 := Lib.hid (And.intro (onB' HQ.out.2.2.1 hb) (And.intro (own_below HQ.out.2.1 hb) (HQ.out.2.2.2.later hb)))
            obtain ⟨aa, nn, cc, hvv⟩ : ∃ a n c, vv = .slice a n c := by
              rcases HQ.out.2.1.2 with ⟨e, _⟩ | ⟨g, cap, cur, e, _⟩
              · exact ⟨_, _, _, e⟩
              · exact ⟨_, _, _, e⟩
            subst hvv
            obtain rfl : nn = acc.length := by
              rcases HQ.out.2.1.2 with ⟨e, e2⟩ | ⟨g, cap, cur, e, _⟩
              · cases e; exact e2.symm
              · cases e; rfl
            clear hb hx hbb
            by_cases g0 : er = 0
            · subst g0
              have hl2 := HLN.out rfl
              by_cases g4 : acc.length = 4096
              · have f4 : ((acc.length : Int) == 4096) = true := by rw [g4]; rfl
                have hgd := HN3.out
                rw [if_pos (by trivial), if_pos g4] at hgd
                have HGD := Lib.hid hgd
                clear hgd g4
                go_upto_region 7 with fail
                generalize (w7.alloc (.cells #[.int .i64 kd, .string bb, .bool ff, .int .u64 xx, .int .i64 0] 35)) = W8 at *
                go_wp2_with fail
                refine bodyPost_ret (v := .tuple #[.slice none 0 0, .int .i64 2, .int .i64 line]) (by simp [results, Tryd.results10, go_sem]) rfl ?_
                rw [← HGD.out]
                exact ⟨onB' HR.out.2 H8.out.1, rfl⟩
              · have f4 : ((acc.length : Int) == 4096) = false := by simp; omega
                have hgd := HN3.out
                rw [if_pos (by trivial), if_neg g4, ← HST.out.2.2.2.2.2, List.drop_drop] at hgd
                have HGD := Lib.hid hgd
                clear hgd
                have hbz : bb.size = tx.length := by rw [size_eq, H8.out.2.2.2.1]
                have eq1 : IntKind.i64.wrap ((k : Int) + (bb.size : Int)) = (k : Int) + (bb.size : Int) := by rw [IntKind.wrap_i64]; omega
                go_upto_region 12 with fail
                have h79 : Below w7.heap.size w7 (w7.alloc (.cells #[.int .i64 kd, .string bb, .bool ff, .int .u64 xx, .int .i64 line] 35)) := (Below.refl w7.heap.size w7).alloc (Nat.le_refl _) _
                have d0 : (w7.alloc (.cells #[.int .i64 kd, .string bb, .bool ff, .int .u64 xx, .int .i64 line] 35)).cell? ⟨w7.heap.size, 0, none⟩ = some (.int .i64 kd) := by simp [go_sem]
                have d1 : (w7.alloc (.cells #[.int .i64 kd, .string bb, .bool ff, .int .u64 xx, .int .i64 line] 35)).cell? ⟨w7.heap.size, 1, none⟩ = some (.string bb) := by simp [go_sem]
                have d2 : (w7.alloc (.cells #[.int .i64 kd, .string bb, .bool ff, .int .u64 xx, .int .i64 line] 35)).cell? ⟨w7.heap.size, 2, none⟩ = some (.bool ff) := by simp [go_sem]
                have d3 : (w7.alloc (.cells #[.int .i64 kd, .string bb, .bool ff, .int .u64 xx, .int .i64 line] 35)).cell? ⟨w7.heap.size, 3, none⟩ = some (.int .u64 xx) := by simp [go_sem]
                have d4 : (w7.alloc (.cells #[.int .i64 kd, .string bb, .bool ff, .int .u64 xx, .int .i64 line] 35)).cell? ⟨w7.heap.size, 4, none⟩ = some (.int .i64 line) := by simp [go_sem]
                have z9 : (w7.alloc (.cells #[.int .i64 kd, .string bb, .bool ff, .int .u64 xx, .int .i64 line] 35)).heap.size = w7.heap.size + 1 := by simp
                have H9 := Lib.hid (And.intro (H7.out.1.trans (h79.mono H7.out.1.size)) (And.intro (own_below H7.out.2.1 h79) (H7.out.2.2.later h79)))
                have h7w := H7.out.1.size
                have hne : some w7.heap.size ≠ (Value.slice aa acc.length cc).ownBlock := fun e => by
                  have := (H7.out.2.1.lt _ e.symm).2
                  omega
                have hbt := Lib.hid (ba_of H8.out.2.2.2.1)
                have HTX := Lib.hid H8.out.2.2.2.1
                clear h79 H8 c0 c1 c2 c3 c4 cz
                have z9' := Nat.le_of_eq z9.symm
                clear z9 zs
                generalize (w7.alloc (.cells #[.int .i64 kd, .string bb, .bool ff, .int .u64 xx, .int .i64 line] 35)) = W9 at *
                have m9 : acc.length + 1 ≤ maxLen := by unfold maxLen; omega
                have m48 : (acc.length + 1) * 48 ≤ 140737488355328 := by omega
                have one5 : ∀ y ∈ [Value.int .i64 kd, .string bb, .bool ff, .int .u64 xx, .int .i64 line], y.oneCell' = true := by intro y hy; simp at hy; rcases hy with rfl | rfl | rfl | rfl | rfl <;> rfl
                go_upto_region 13 with (at_builtin; refine wpList_append_lies _ rfl _ _ 23 rfl W.heap.size 35 i0 (.agg #[.int .i64 0, .string ⟨#[]⟩, .bool false, .int .u64 0, .int .i64 0]) 5 48 Tryd.underlying23 hi0 hz0 hzs hzb rfl (by decide) (.slice aa acc.length cc) acc.length (flatT acc) rfl (H9.out.2.1.alloc _) ⟨W9.heap.size, 0, none⟩ 1 1 [.int .i64 kd, .string bb, .bool ff, .int .u64 xx, .int .i64 line] rfl rfl (World.news_of_block (heap_alloc_new _ _)) one5 (by decide) m9 m48 (by simp; omega) _ rfl ?_; intro g9 cap9 w11 o1 o2 o3 o4)
                have hxx := (Below.refl W9.heap.size W9).alloc (Nat.le_refl _) (.cells #[.int .i64 kd, .string bb, .bool ff, .int .u64 xx, .int .i64 line] 35)
                have hob : ∀ g, (Value.slice aa acc.length cc).ownBlock = some g → W.heap.size ≤ g := fun g hg => (H7.out.2.1.lt g hg).1
                have hB11 : Below W.heap.size W w11 := by
                  have h0 := onB' H9.out.1 hxx
                  have hs0 := H9.out.1.size
                  exact ⟨o2.os.trans h0.os, o2.tape.trans h0.tape, o2.output.trans h0.output, Nat.le_trans h0.size o2.size, fun q hq => (o2.block q (by have := h0.size; omega) (fun e => by have := hob q e.symm; omega)).trans (h0.block q hq)⟩
                have hR11 : Rd b kb w11 := HR.out.1.later hB11
                have e1 := o2.cell (later' hxx d1) (by simpa using hne)
                have HO := Lib.hid (And.intro o1 (And.intro hB11 hR11))
                clear o1 o2 o3 o4 hB11 hR11 hxx hob H9 H7
                go_wp2_with fail
                refine ⟨⟨k + bb.size, line, acc ++ [(⟨kd, tx, ff, xx⟩, line)], _, g, by omega, rfl, by go_num, rfl, by omega, by have := HGD.out; rw [← hbz] at this; simpa using this, ?_, HO.out.2.1, HO.out.2.2, by omega, by omega, by simp; omega⟩, by simp [RowKit.intOf]; omega⟩
                rw [flatT_append]
                have hlen : (acc ++ [((⟨kd, tx, ff, xx⟩ : Tk), line)]).length = acc.length + 1 := by simp
                rw [hlen]
                have := HO.out.1
                rw [hbt.out] at this
                exact this
            · have f0 : (er == 0) = false := by simpa using g0
              have f1 : (er != 0) = true := by simpa using g0
              have hgd := HN3.out
              rw [if_neg g0] at hgd
              have HGD := Lib.hid hgd
              clear hgd
              go_upto_region 7 with fail
              generalize (w7.alloc (.cells #[.int .i64 kd, .string bb, .bool ff, .int .u64 xx, .int .i64 0] 35)) = W8 at *
              go_wp2_with fail
              refine bodyPost_ret (v := .tuple #[.slice none 0 0, .int .i64 er, .int .i64 line]) (by simp [results, Tryd.results10, go_sem]) rfl ?_
              rw [← HGD.out]
              exact ⟨onB' HR.out.2 H8.out.1, rfl⟩
    · obtain rfl : k = s.size := by omega
      have hgd : lexL s.data.toList = .good acc := by
        rw [← HQ.out.1, List.drop_of_length_le (by simp)]
        cases f <;> rfl
      have HGD := Lib.hid hgd
      clear hgd
      obtain ⟨aa, nn, cc, hvv⟩ : ∃ a n c, vv = .slice a n c := by
        rcases HQ.out.2.1.2 with ⟨e, _⟩ | ⟨g, cap, cur, e, _⟩
        · exact ⟨_, _, _, e⟩
        · exact ⟨_, _, _, e⟩
      subst hvv
      go_wp2_with fail
      refine bodyPost_ret (v := .tuple #[.slice aa nn cc, .int .i64 0, .int .i64 0]) (by simp [results, Tryd.results10, go_sem]) rfl ?_
      rw [HGD.out]
      exact ⟨onB' HR.out.2 HQ.out.2.2.1, aa, nn, cc, rfl, own_base HQ.out.2.1 HR.out.2.size⟩

end Go.Proofs.YtkeeglpbhjnmdaaDoor
