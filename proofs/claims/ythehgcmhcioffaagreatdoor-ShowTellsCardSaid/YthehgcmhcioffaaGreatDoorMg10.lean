import Derived.Test.YthehgcmhcioffaaGreatDoorMg9
namespace Go.Proofs.YthehgcmhcioffaaGreatDoor
set_option maxHeartbeats 64000000
set_option maxRecDepth 100000
open Go.RowKit Go.Lib
theorem forms_any (w : World) : Calls Tryz.prog 37 #[] w fun e w' => e = .returned (.agg #[.nilFunc, .func (.func 61) #[] #[], .func (.func 62) #[] #[], .func (.func 63) #[] #[], .func (.func 64) #[] #[], .func (.func 65) #[] #[], .func (.func 66) #[] #[], .func (.func 67) #[] #[], .func (.func 68) #[] #[]]) ∧ Below w.heap.size w w' := by
  have HX := Hd ((Below.refl w.heap.size w).alloc Nr (.cells #[.nilFunc, .func (.func 61) #[] #[], .func (.func 62) #[] #[], .func (.func 63) #[] #[], .func (.func 64) #[] #[], .func (.func 65) #[] #[], .func (.func 66) #[] #[], .func (.func 67) #[] #[], .func (.func 68) #[] #[]] 84))
  have hmf := func_made
  go_enter Tryz.func37, Tryz.ntmps37
  go_wp2_with fail
  refine bodyPost_ret (results_cell_row rfl _ _ w.heap.size _ _ _ _ rfl (heap_alloc_new _ _) Tryz.underlying84 rfl (by kernel_rfl)) rfl ?_
  exact ⟨rfl, HX.out⟩
theorem text_k1 (R : List UInt8) (nm : Nm) (f : Bool) (u : Int) (ap : Option Addr) (np cp : Nat) (ak : Option Addr) (nk ck : Nat) (ab : Option Addr) (nb cb : Nat) (aa : Option Addr) (na ca : Nat) (w : World) (hk : ∀ V, Below w.heap.size w V → Calls Tryz.prog 61 #[.agg #[.int .i64 1, .string (tx nm), .bool f, .int .u64 u, .slice ap np cp, .slice ak nk ck, .slice ab nb cb, .slice aa na ca]] V fun e w' => e = .returned (.string (tx R)) ∧ Below V.heap.size V w') :
    Calls Tryz.prog 15 #[.agg #[.int .i64 1, .string (tx nm), .bool f, .int .u64 u, .slice ap np cp, .slice ak nk ck, .slice ab nb cb, .slice aa na ca]] w fun e w' => e = .returned (.string (tx R)) ∧ Below w.heap.size w w' := by
  have hx := (Below.refl w.heap.size w).alloc Nr (.cells #[.int .i64 1, .string (tx nm), .bool f, .int .u64 u, .slice ap np cp, .slice ak nk ck, .slice ab nb cb, .slice aa na ca] 48)
  have HX := Hd (Ai hx (BoxW.alloc w #[.int .i64 1, .string (tx nm), .bool f, .int .u64 u, .slice ap np cp, .slice ak nk ck, .slice ab nb cb, .slice aa na ca] 48))
  have HF := Hd (forms_any (w.alloc (.cells #[.int .i64 1, .string (tx nm), .bool f, .int .u64 u, .slice ap np cp, .slice ak nk ck, .slice ab nb cb, .slice aa na ca] 48)))
  have HK := Hd hk
  have hmf := func_made
  clear hx hk
  go_enter Tryz.func15, Tryz.ntmps15
  go_wp2_with fail
  refine HF.out.mono ?_
  rintro e w2 ⟨rfl, hb⟩
  have h3 := (Below.refl w2.heap.size w2).alloc Nr (.cells #[.nilFunc, .func (.func 61) #[] #[], .func (.func 62) #[] #[], .func (.func 63) #[] #[], .func (.func 64) #[] #[], .func (.func 65) #[] #[], .func (.func 66) #[] #[], .func (.func 67) #[] #[], .func (.func 68) #[] #[]] 84)
  have HB := Hd (Ai (onB' (onB' HX.out.1 hb) h3) (Ai ((HX.out.2.below hb).below h3) (BoxW.alloc w2 #[.nilFunc, .func (.func 61) #[] #[], .func (.func 62) #[] #[], .func (.func 63) #[] #[], .func (.func 64) #[] #[], .func (.func 65) #[] #[], .func (.func 66) #[] #[], .func (.func 67) #[] #[], .func (.func 68) #[] #[]] 84)))
  clear hb h3 HF HX
  have q0 : (w2.alloc (.cells #[.nilFunc, .func (.func 61) #[] #[], .func (.func 62) #[] #[], .func (.func 63) #[] #[], .func (.func 64) #[] #[], .func (.func 65) #[] #[], .func (.func 66) #[] #[], .func (.func 67) #[] #[], .func (.func 68) #[] #[]] 84)).cell? ⟨w.heap.size, 0, none⟩ = some (.int .i64 1) := HB.out.2.1.1 0 _ rfl
  have q1 : (w2.alloc (.cells #[.nilFunc, .func (.func 61) #[] #[], .func (.func 62) #[] #[], .func (.func 63) #[] #[], .func (.func 64) #[] #[], .func (.func 65) #[] #[], .func (.func 66) #[] #[], .func (.func 67) #[] #[], .func (.func 68) #[] #[]] 84)).cell? ⟨w.heap.size, 1, none⟩ = some (.string (tx nm)) := HB.out.2.1.1 1 _ rfl
  have q2 : (w2.alloc (.cells #[.nilFunc, .func (.func 61) #[] #[], .func (.func 62) #[] #[], .func (.func 63) #[] #[], .func (.func 64) #[] #[], .func (.func 65) #[] #[], .func (.func 66) #[] #[], .func (.func 67) #[] #[], .func (.func 68) #[] #[]] 84)).cell? ⟨w.heap.size, 2, none⟩ = some (.bool f) := HB.out.2.1.1 2 _ rfl
  have q3 : (w2.alloc (.cells #[.nilFunc, .func (.func 61) #[] #[], .func (.func 62) #[] #[], .func (.func 63) #[] #[], .func (.func 64) #[] #[], .func (.func 65) #[] #[], .func (.func 66) #[] #[], .func (.func 67) #[] #[], .func (.func 68) #[] #[]] 84)).cell? ⟨w.heap.size, 3, none⟩ = some (.int .u64 u) := HB.out.2.1.1 3 _ rfl
  have q4 : (w2.alloc (.cells #[.nilFunc, .func (.func 61) #[] #[], .func (.func 62) #[] #[], .func (.func 63) #[] #[], .func (.func 64) #[] #[], .func (.func 65) #[] #[], .func (.func 66) #[] #[], .func (.func 67) #[] #[], .func (.func 68) #[] #[]] 84)).cell? ⟨w.heap.size, 4, none⟩ = some (.slice ap np cp) := HB.out.2.1.1 4 _ rfl
  have q5 : (w2.alloc (.cells #[.nilFunc, .func (.func 61) #[] #[], .func (.func 62) #[] #[], .func (.func 63) #[] #[], .func (.func 64) #[] #[], .func (.func 65) #[] #[], .func (.func 66) #[] #[], .func (.func 67) #[] #[], .func (.func 68) #[] #[]] 84)).cell? ⟨w.heap.size, 5, none⟩ = some (.slice ak nk ck) := HB.out.2.1.1 5 _ rfl
  have q6 : (w2.alloc (.cells #[.nilFunc, .func (.func 61) #[] #[], .func (.func 62) #[] #[], .func (.func 63) #[] #[], .func (.func 64) #[] #[], .func (.func 65) #[] #[], .func (.func 66) #[] #[], .func (.func 67) #[] #[], .func (.func 68) #[] #[]] 84)).cell? ⟨w.heap.size, 6, none⟩ = some (.slice ab nb cb) := HB.out.2.1.1 6 _ rfl
  have q7 : (w2.alloc (.cells #[.nilFunc, .func (.func 61) #[] #[], .func (.func 62) #[] #[], .func (.func 63) #[] #[], .func (.func 64) #[] #[], .func (.func 65) #[] #[], .func (.func 66) #[] #[], .func (.func 67) #[] #[], .func (.func 68) #[] #[]] 84)).cell? ⟨w.heap.size, 7, none⟩ = some (.slice aa na ca) := HB.out.2.1.1 7 _ rfl
  go_upto_region 4 with fail
  generalize (w2.alloc (.cells #[.nilFunc, .func (.func 61) #[] #[], .func (.func 62) #[] #[], .func (.func 63) #[] #[], .func (.func 64) #[] #[], .func (.func 65) #[] #[], .func (.func 66) #[] #[], .func (.func 67) #[] #[], .func (.func 68) #[] #[]] 84)) = W at *
  have HS := Hd (fun (V : World) (hb : Below W.heap.size W V) => (⟨(HB.out.2.1.below hb).1 0 _ rfl, (HB.out.2.1.below hb).1 1 _ rfl, (HB.out.2.1.below hb).1 2 _ rfl, (HB.out.2.1.below hb).1 3 _ rfl, (HB.out.2.1.below hb).1 4 _ rfl, (HB.out.2.1.below hb).1 5 _ rfl, (HB.out.2.1.below hb).1 6 _ rfl, (HB.out.2.1.below hb).1 7 _ rfl, (HB.out.2.2.below hb).1 1 _ rfl⟩ : V.cell? ⟨w.heap.size, 0, none⟩ = some (.int .i64 1) ∧ V.cell? ⟨w.heap.size, 1, none⟩ = some (.string (tx nm)) ∧ V.cell? ⟨w.heap.size, 2, none⟩ = some (.bool f) ∧ V.cell? ⟨w.heap.size, 3, none⟩ = some (.int .u64 u) ∧ V.cell? ⟨w.heap.size, 4, none⟩ = some (.slice ap np cp) ∧ V.cell? ⟨w.heap.size, 5, none⟩ = some (.slice ak nk ck) ∧ V.cell? ⟨w.heap.size, 6, none⟩ = some (.slice ab nb cb) ∧ V.cell? ⟨w.heap.size, 7, none⟩ = some (.slice aa na ca) ∧ V.cell? ⟨w2.heap.size, 1, none⟩ = some (.func (.func 61) #[] #[])))
  have q8 : W.cell? ⟨w2.heap.size, 1, none⟩ = some (.func (.func 61) #[] #[]) := HB.out.2.2.1 1 _ rfl
  go_region_held3 (fun W' => W'.cell? ⟨w.heap.size, 0, none⟩ = some (.int .i64 1) ∧ W'.cell? ⟨w.heap.size, 1, none⟩ = some (.string (tx nm)) ∧ W'.cell? ⟨w.heap.size, 2, none⟩ = some (.bool f) ∧ W'.cell? ⟨w.heap.size, 3, none⟩ = some (.int .u64 u) ∧ W'.cell? ⟨w.heap.size, 4, none⟩ = some (.slice ap np cp) ∧ W'.cell? ⟨w.heap.size, 5, none⟩ = some (.slice ak nk ck) ∧ W'.cell? ⟨w.heap.size, 6, none⟩ = some (.slice ab nb cb) ∧ W'.cell? ⟨w.heap.size, 7, none⟩ = some (.slice aa na ca) ∧ W'.cell? ⟨w2.heap.size, 1, none⟩ = some (.func (.func 61) #[] #[])) (first | exact HS.out _ H4 | exact HS.out _ Br | go_keep) (
    (go_at_call 61
     refine (HK.out _ (onB' HB.out.1 (by first  | exact Br.drew | exact Below.refl _ _))).mono ?_
     rintro e w4 ⟨rfl, hb4⟩
     have H4 : Below W.heap.size W w4 := onB' (by first  | exact Br.drew | exact Below.refl _ _) hb4
     clear hb4))
  all_goals go_wp2_with fail
  all_goals go_ret
  all_goals exact ⟨rfl, onB' HB.out.1 H4⟩
theorem text_k2 (R : List UInt8) (nm : Nm) (f : Bool) (u : Int) (ap : Option Addr) (np cp : Nat) (ak : Option Addr) (nk ck : Nat) (ab : Option Addr) (nb cb : Nat) (aa : Option Addr) (na ca : Nat) (w : World) (hk : ∀ V, Below w.heap.size w V → Calls Tryz.prog 62 #[.agg #[.int .i64 2, .string (tx nm), .bool f, .int .u64 u, .slice ap np cp, .slice ak nk ck, .slice ab nb cb, .slice aa na ca]] V fun e w' => e = .returned (.string (tx R)) ∧ Below V.heap.size V w') :
    Calls Tryz.prog 15 #[.agg #[.int .i64 2, .string (tx nm), .bool f, .int .u64 u, .slice ap np cp, .slice ak nk ck, .slice ab nb cb, .slice aa na ca]] w fun e w' => e = .returned (.string (tx R)) ∧ Below w.heap.size w w' := by
  have hx := (Below.refl w.heap.size w).alloc Nr (.cells #[.int .i64 2, .string (tx nm), .bool f, .int .u64 u, .slice ap np cp, .slice ak nk ck, .slice ab nb cb, .slice aa na ca] 48)
  have HX := Hd (Ai hx (BoxW.alloc w #[.int .i64 2, .string (tx nm), .bool f, .int .u64 u, .slice ap np cp, .slice ak nk ck, .slice ab nb cb, .slice aa na ca] 48))
  have HF := Hd (forms_any (w.alloc (.cells #[.int .i64 2, .string (tx nm), .bool f, .int .u64 u, .slice ap np cp, .slice ak nk ck, .slice ab nb cb, .slice aa na ca] 48)))
  have HK := Hd hk
  have hmf := func_made
  clear hx hk
  go_enter Tryz.func15, Tryz.ntmps15
  go_wp2_with fail
  refine HF.out.mono ?_
  rintro e w2 ⟨rfl, hb⟩
  have h3 := (Below.refl w2.heap.size w2).alloc Nr (.cells #[.nilFunc, .func (.func 61) #[] #[], .func (.func 62) #[] #[], .func (.func 63) #[] #[], .func (.func 64) #[] #[], .func (.func 65) #[] #[], .func (.func 66) #[] #[], .func (.func 67) #[] #[], .func (.func 68) #[] #[]] 84)
  have HB := Hd (Ai (onB' (onB' HX.out.1 hb) h3) (Ai ((HX.out.2.below hb).below h3) (BoxW.alloc w2 #[.nilFunc, .func (.func 61) #[] #[], .func (.func 62) #[] #[], .func (.func 63) #[] #[], .func (.func 64) #[] #[], .func (.func 65) #[] #[], .func (.func 66) #[] #[], .func (.func 67) #[] #[], .func (.func 68) #[] #[]] 84)))
  clear hb h3 HF HX
  have q0 : (w2.alloc (.cells #[.nilFunc, .func (.func 61) #[] #[], .func (.func 62) #[] #[], .func (.func 63) #[] #[], .func (.func 64) #[] #[], .func (.func 65) #[] #[], .func (.func 66) #[] #[], .func (.func 67) #[] #[], .func (.func 68) #[] #[]] 84)).cell? ⟨w.heap.size, 0, none⟩ = some (.int .i64 2) := HB.out.2.1.1 0 _ rfl
  have q1 : (w2.alloc (.cells #[.nilFunc, .func (.func 61) #[] #[], .func (.func 62) #[] #[], .func (.func 63) #[] #[], .func (.func 64) #[] #[], .func (.func 65) #[] #[], .func (.func 66) #[] #[], .func (.func 67) #[] #[], .func (.func 68) #[] #[]] 84)).cell? ⟨w.heap.size, 1, none⟩ = some (.string (tx nm)) := HB.out.2.1.1 1 _ rfl
  have q2 : (w2.alloc (.cells #[.nilFunc, .func (.func 61) #[] #[], .func (.func 62) #[] #[], .func (.func 63) #[] #[], .func (.func 64) #[] #[], .func (.func 65) #[] #[], .func (.func 66) #[] #[], .func (.func 67) #[] #[], .func (.func 68) #[] #[]] 84)).cell? ⟨w.heap.size, 2, none⟩ = some (.bool f) := HB.out.2.1.1 2 _ rfl
  have q3 : (w2.alloc (.cells #[.nilFunc, .func (.func 61) #[] #[], .func (.func 62) #[] #[], .func (.func 63) #[] #[], .func (.func 64) #[] #[], .func (.func 65) #[] #[], .func (.func 66) #[] #[], .func (.func 67) #[] #[], .func (.func 68) #[] #[]] 84)).cell? ⟨w.heap.size, 3, none⟩ = some (.int .u64 u) := HB.out.2.1.1 3 _ rfl
  have q4 : (w2.alloc (.cells #[.nilFunc, .func (.func 61) #[] #[], .func (.func 62) #[] #[], .func (.func 63) #[] #[], .func (.func 64) #[] #[], .func (.func 65) #[] #[], .func (.func 66) #[] #[], .func (.func 67) #[] #[], .func (.func 68) #[] #[]] 84)).cell? ⟨w.heap.size, 4, none⟩ = some (.slice ap np cp) := HB.out.2.1.1 4 _ rfl
  have q5 : (w2.alloc (.cells #[.nilFunc, .func (.func 61) #[] #[], .func (.func 62) #[] #[], .func (.func 63) #[] #[], .func (.func 64) #[] #[], .func (.func 65) #[] #[], .func (.func 66) #[] #[], .func (.func 67) #[] #[], .func (.func 68) #[] #[]] 84)).cell? ⟨w.heap.size, 5, none⟩ = some (.slice ak nk ck) := HB.out.2.1.1 5 _ rfl
  have q6 : (w2.alloc (.cells #[.nilFunc, .func (.func 61) #[] #[], .func (.func 62) #[] #[], .func (.func 63) #[] #[], .func (.func 64) #[] #[], .func (.func 65) #[] #[], .func (.func 66) #[] #[], .func (.func 67) #[] #[], .func (.func 68) #[] #[]] 84)).cell? ⟨w.heap.size, 6, none⟩ = some (.slice ab nb cb) := HB.out.2.1.1 6 _ rfl
  have q7 : (w2.alloc (.cells #[.nilFunc, .func (.func 61) #[] #[], .func (.func 62) #[] #[], .func (.func 63) #[] #[], .func (.func 64) #[] #[], .func (.func 65) #[] #[], .func (.func 66) #[] #[], .func (.func 67) #[] #[], .func (.func 68) #[] #[]] 84)).cell? ⟨w.heap.size, 7, none⟩ = some (.slice aa na ca) := HB.out.2.1.1 7 _ rfl
  go_upto_region 4 with fail
  generalize (w2.alloc (.cells #[.nilFunc, .func (.func 61) #[] #[], .func (.func 62) #[] #[], .func (.func 63) #[] #[], .func (.func 64) #[] #[], .func (.func 65) #[] #[], .func (.func 66) #[] #[], .func (.func 67) #[] #[], .func (.func 68) #[] #[]] 84)) = W at *
  have HS := Hd (fun (V : World) (hb : Below W.heap.size W V) => (⟨(HB.out.2.1.below hb).1 0 _ rfl, (HB.out.2.1.below hb).1 1 _ rfl, (HB.out.2.1.below hb).1 2 _ rfl, (HB.out.2.1.below hb).1 3 _ rfl, (HB.out.2.1.below hb).1 4 _ rfl, (HB.out.2.1.below hb).1 5 _ rfl, (HB.out.2.1.below hb).1 6 _ rfl, (HB.out.2.1.below hb).1 7 _ rfl, (HB.out.2.2.below hb).1 2 _ rfl⟩ : V.cell? ⟨w.heap.size, 0, none⟩ = some (.int .i64 2) ∧ V.cell? ⟨w.heap.size, 1, none⟩ = some (.string (tx nm)) ∧ V.cell? ⟨w.heap.size, 2, none⟩ = some (.bool f) ∧ V.cell? ⟨w.heap.size, 3, none⟩ = some (.int .u64 u) ∧ V.cell? ⟨w.heap.size, 4, none⟩ = some (.slice ap np cp) ∧ V.cell? ⟨w.heap.size, 5, none⟩ = some (.slice ak nk ck) ∧ V.cell? ⟨w.heap.size, 6, none⟩ = some (.slice ab nb cb) ∧ V.cell? ⟨w.heap.size, 7, none⟩ = some (.slice aa na ca) ∧ V.cell? ⟨w2.heap.size, 2, none⟩ = some (.func (.func 62) #[] #[])))
  have q8 : W.cell? ⟨w2.heap.size, 2, none⟩ = some (.func (.func 62) #[] #[]) := HB.out.2.2.1 2 _ rfl
  go_region_held3 (fun W' => W'.cell? ⟨w.heap.size, 0, none⟩ = some (.int .i64 2) ∧ W'.cell? ⟨w.heap.size, 1, none⟩ = some (.string (tx nm)) ∧ W'.cell? ⟨w.heap.size, 2, none⟩ = some (.bool f) ∧ W'.cell? ⟨w.heap.size, 3, none⟩ = some (.int .u64 u) ∧ W'.cell? ⟨w.heap.size, 4, none⟩ = some (.slice ap np cp) ∧ W'.cell? ⟨w.heap.size, 5, none⟩ = some (.slice ak nk ck) ∧ W'.cell? ⟨w.heap.size, 6, none⟩ = some (.slice ab nb cb) ∧ W'.cell? ⟨w.heap.size, 7, none⟩ = some (.slice aa na ca) ∧ W'.cell? ⟨w2.heap.size, 2, none⟩ = some (.func (.func 62) #[] #[])) (first | exact HS.out _ H4 | exact HS.out _ Br | go_keep) (
    (go_at_call 62
     refine (HK.out _ (onB' HB.out.1 (by first  | exact Br.drew | exact Below.refl _ _))).mono ?_
     rintro e w4 ⟨rfl, hb4⟩
     have H4 : Below W.heap.size W w4 := onB' (by first  | exact Br.drew | exact Below.refl _ _) hb4
     clear hb4))
  all_goals go_wp2_with fail
  all_goals go_ret
  all_goals exact ⟨rfl, onB' HB.out.1 H4⟩
theorem text_k3 (R : List UInt8) (nm : Nm) (f : Bool) (u : Int) (ap : Option Addr) (np cp : Nat) (ak : Option Addr) (nk ck : Nat) (ab : Option Addr) (nb cb : Nat) (aa : Option Addr) (na ca : Nat) (w : World) (hk : ∀ V, Below w.heap.size w V → Calls Tryz.prog 63 #[.agg #[.int .i64 3, .string (tx nm), .bool f, .int .u64 u, .slice ap np cp, .slice ak nk ck, .slice ab nb cb, .slice aa na ca]] V fun e w' => e = .returned (.string (tx R)) ∧ Below V.heap.size V w') :
    Calls Tryz.prog 15 #[.agg #[.int .i64 3, .string (tx nm), .bool f, .int .u64 u, .slice ap np cp, .slice ak nk ck, .slice ab nb cb, .slice aa na ca]] w fun e w' => e = .returned (.string (tx R)) ∧ Below w.heap.size w w' := by
  have hx := (Below.refl w.heap.size w).alloc Nr (.cells #[.int .i64 3, .string (tx nm), .bool f, .int .u64 u, .slice ap np cp, .slice ak nk ck, .slice ab nb cb, .slice aa na ca] 48)
  have HX := Hd (Ai hx (BoxW.alloc w #[.int .i64 3, .string (tx nm), .bool f, .int .u64 u, .slice ap np cp, .slice ak nk ck, .slice ab nb cb, .slice aa na ca] 48))
  have HF := Hd (forms_any (w.alloc (.cells #[.int .i64 3, .string (tx nm), .bool f, .int .u64 u, .slice ap np cp, .slice ak nk ck, .slice ab nb cb, .slice aa na ca] 48)))
  have HK := Hd hk
  have hmf := func_made
  clear hx hk
  go_enter Tryz.func15, Tryz.ntmps15
  go_wp2_with fail
  refine HF.out.mono ?_
  rintro e w2 ⟨rfl, hb⟩
  have h3 := (Below.refl w2.heap.size w2).alloc Nr (.cells #[.nilFunc, .func (.func 61) #[] #[], .func (.func 62) #[] #[], .func (.func 63) #[] #[], .func (.func 64) #[] #[], .func (.func 65) #[] #[], .func (.func 66) #[] #[], .func (.func 67) #[] #[], .func (.func 68) #[] #[]] 84)
  have HB := Hd (Ai (onB' (onB' HX.out.1 hb) h3) (Ai ((HX.out.2.below hb).below h3) (BoxW.alloc w2 #[.nilFunc, .func (.func 61) #[] #[], .func (.func 62) #[] #[], .func (.func 63) #[] #[], .func (.func 64) #[] #[], .func (.func 65) #[] #[], .func (.func 66) #[] #[], .func (.func 67) #[] #[], .func (.func 68) #[] #[]] 84)))
  clear hb h3 HF HX
  have q0 : (w2.alloc (.cells #[.nilFunc, .func (.func 61) #[] #[], .func (.func 62) #[] #[], .func (.func 63) #[] #[], .func (.func 64) #[] #[], .func (.func 65) #[] #[], .func (.func 66) #[] #[], .func (.func 67) #[] #[], .func (.func 68) #[] #[]] 84)).cell? ⟨w.heap.size, 0, none⟩ = some (.int .i64 3) := HB.out.2.1.1 0 _ rfl
  have q1 : (w2.alloc (.cells #[.nilFunc, .func (.func 61) #[] #[], .func (.func 62) #[] #[], .func (.func 63) #[] #[], .func (.func 64) #[] #[], .func (.func 65) #[] #[], .func (.func 66) #[] #[], .func (.func 67) #[] #[], .func (.func 68) #[] #[]] 84)).cell? ⟨w.heap.size, 1, none⟩ = some (.string (tx nm)) := HB.out.2.1.1 1 _ rfl
  have q2 : (w2.alloc (.cells #[.nilFunc, .func (.func 61) #[] #[], .func (.func 62) #[] #[], .func (.func 63) #[] #[], .func (.func 64) #[] #[], .func (.func 65) #[] #[], .func (.func 66) #[] #[], .func (.func 67) #[] #[], .func (.func 68) #[] #[]] 84)).cell? ⟨w.heap.size, 2, none⟩ = some (.bool f) := HB.out.2.1.1 2 _ rfl
  have q3 : (w2.alloc (.cells #[.nilFunc, .func (.func 61) #[] #[], .func (.func 62) #[] #[], .func (.func 63) #[] #[], .func (.func 64) #[] #[], .func (.func 65) #[] #[], .func (.func 66) #[] #[], .func (.func 67) #[] #[], .func (.func 68) #[] #[]] 84)).cell? ⟨w.heap.size, 3, none⟩ = some (.int .u64 u) := HB.out.2.1.1 3 _ rfl
  have q4 : (w2.alloc (.cells #[.nilFunc, .func (.func 61) #[] #[], .func (.func 62) #[] #[], .func (.func 63) #[] #[], .func (.func 64) #[] #[], .func (.func 65) #[] #[], .func (.func 66) #[] #[], .func (.func 67) #[] #[], .func (.func 68) #[] #[]] 84)).cell? ⟨w.heap.size, 4, none⟩ = some (.slice ap np cp) := HB.out.2.1.1 4 _ rfl
  have q5 : (w2.alloc (.cells #[.nilFunc, .func (.func 61) #[] #[], .func (.func 62) #[] #[], .func (.func 63) #[] #[], .func (.func 64) #[] #[], .func (.func 65) #[] #[], .func (.func 66) #[] #[], .func (.func 67) #[] #[], .func (.func 68) #[] #[]] 84)).cell? ⟨w.heap.size, 5, none⟩ = some (.slice ak nk ck) := HB.out.2.1.1 5 _ rfl
  have q6 : (w2.alloc (.cells #[.nilFunc, .func (.func 61) #[] #[], .func (.func 62) #[] #[], .func (.func 63) #[] #[], .func (.func 64) #[] #[], .func (.func 65) #[] #[], .func (.func 66) #[] #[], .func (.func 67) #[] #[], .func (.func 68) #[] #[]] 84)).cell? ⟨w.heap.size, 6, none⟩ = some (.slice ab nb cb) := HB.out.2.1.1 6 _ rfl
  have q7 : (w2.alloc (.cells #[.nilFunc, .func (.func 61) #[] #[], .func (.func 62) #[] #[], .func (.func 63) #[] #[], .func (.func 64) #[] #[], .func (.func 65) #[] #[], .func (.func 66) #[] #[], .func (.func 67) #[] #[], .func (.func 68) #[] #[]] 84)).cell? ⟨w.heap.size, 7, none⟩ = some (.slice aa na ca) := HB.out.2.1.1 7 _ rfl
  go_upto_region 4 with fail
  generalize (w2.alloc (.cells #[.nilFunc, .func (.func 61) #[] #[], .func (.func 62) #[] #[], .func (.func 63) #[] #[], .func (.func 64) #[] #[], .func (.func 65) #[] #[], .func (.func 66) #[] #[], .func (.func 67) #[] #[], .func (.func 68) #[] #[]] 84)) = W at *
  have HS := Hd (fun (V : World) (hb : Below W.heap.size W V) => (⟨(HB.out.2.1.below hb).1 0 _ rfl, (HB.out.2.1.below hb).1 1 _ rfl, (HB.out.2.1.below hb).1 2 _ rfl, (HB.out.2.1.below hb).1 3 _ rfl, (HB.out.2.1.below hb).1 4 _ rfl, (HB.out.2.1.below hb).1 5 _ rfl, (HB.out.2.1.below hb).1 6 _ rfl, (HB.out.2.1.below hb).1 7 _ rfl, (HB.out.2.2.below hb).1 3 _ rfl⟩ : V.cell? ⟨w.heap.size, 0, none⟩ = some (.int .i64 3) ∧ V.cell? ⟨w.heap.size, 1, none⟩ = some (.string (tx nm)) ∧ V.cell? ⟨w.heap.size, 2, none⟩ = some (.bool f) ∧ V.cell? ⟨w.heap.size, 3, none⟩ = some (.int .u64 u) ∧ V.cell? ⟨w.heap.size, 4, none⟩ = some (.slice ap np cp) ∧ V.cell? ⟨w.heap.size, 5, none⟩ = some (.slice ak nk ck) ∧ V.cell? ⟨w.heap.size, 6, none⟩ = some (.slice ab nb cb) ∧ V.cell? ⟨w.heap.size, 7, none⟩ = some (.slice aa na ca) ∧ V.cell? ⟨w2.heap.size, 3, none⟩ = some (.func (.func 63) #[] #[])))
  have q8 : W.cell? ⟨w2.heap.size, 3, none⟩ = some (.func (.func 63) #[] #[]) := HB.out.2.2.1 3 _ rfl
  go_region_held3 (fun W' => W'.cell? ⟨w.heap.size, 0, none⟩ = some (.int .i64 3) ∧ W'.cell? ⟨w.heap.size, 1, none⟩ = some (.string (tx nm)) ∧ W'.cell? ⟨w.heap.size, 2, none⟩ = some (.bool f) ∧ W'.cell? ⟨w.heap.size, 3, none⟩ = some (.int .u64 u) ∧ W'.cell? ⟨w.heap.size, 4, none⟩ = some (.slice ap np cp) ∧ W'.cell? ⟨w.heap.size, 5, none⟩ = some (.slice ak nk ck) ∧ W'.cell? ⟨w.heap.size, 6, none⟩ = some (.slice ab nb cb) ∧ W'.cell? ⟨w.heap.size, 7, none⟩ = some (.slice aa na ca) ∧ W'.cell? ⟨w2.heap.size, 3, none⟩ = some (.func (.func 63) #[] #[])) (first | exact HS.out _ H4 | exact HS.out _ Br | go_keep) (
    (go_at_call 63
     refine (HK.out _ (onB' HB.out.1 (by first  | exact Br.drew | exact Below.refl _ _))).mono ?_
     rintro e w4 ⟨rfl, hb4⟩
     have H4 : Below W.heap.size W w4 := onB' (by first  | exact Br.drew | exact Below.refl _ _) hb4
     clear hb4))
  all_goals go_wp2_with fail
  all_goals go_ret
  all_goals exact ⟨rfl, onB' HB.out.1 H4⟩
theorem text_k4 (R : List UInt8) (nm : Nm) (f : Bool) (u : Int) (ap : Option Addr) (np cp : Nat) (ak : Option Addr) (nk ck : Nat) (ab : Option Addr) (nb cb : Nat) (aa : Option Addr) (na ca : Nat) (w : World) (hk : ∀ V, Below w.heap.size w V → Calls Tryz.prog 64 #[.agg #[.int .i64 4, .string (tx nm), .bool f, .int .u64 u, .slice ap np cp, .slice ak nk ck, .slice ab nb cb, .slice aa na ca]] V fun e w' => e = .returned (.string (tx R)) ∧ Below V.heap.size V w') :
    Calls Tryz.prog 15 #[.agg #[.int .i64 4, .string (tx nm), .bool f, .int .u64 u, .slice ap np cp, .slice ak nk ck, .slice ab nb cb, .slice aa na ca]] w fun e w' => e = .returned (.string (tx R)) ∧ Below w.heap.size w w' := by
  have hx := (Below.refl w.heap.size w).alloc Nr (.cells #[.int .i64 4, .string (tx nm), .bool f, .int .u64 u, .slice ap np cp, .slice ak nk ck, .slice ab nb cb, .slice aa na ca] 48)
  have HX := Hd (Ai hx (BoxW.alloc w #[.int .i64 4, .string (tx nm), .bool f, .int .u64 u, .slice ap np cp, .slice ak nk ck, .slice ab nb cb, .slice aa na ca] 48))
  have HF := Hd (forms_any (w.alloc (.cells #[.int .i64 4, .string (tx nm), .bool f, .int .u64 u, .slice ap np cp, .slice ak nk ck, .slice ab nb cb, .slice aa na ca] 48)))
  have HK := Hd hk
  have hmf := func_made
  clear hx hk
  go_enter Tryz.func15, Tryz.ntmps15
  go_wp2_with fail
  refine HF.out.mono ?_
  rintro e w2 ⟨rfl, hb⟩
  have h3 := (Below.refl w2.heap.size w2).alloc Nr (.cells #[.nilFunc, .func (.func 61) #[] #[], .func (.func 62) #[] #[], .func (.func 63) #[] #[], .func (.func 64) #[] #[], .func (.func 65) #[] #[], .func (.func 66) #[] #[], .func (.func 67) #[] #[], .func (.func 68) #[] #[]] 84)
  have HB := Hd (Ai (onB' (onB' HX.out.1 hb) h3) (Ai ((HX.out.2.below hb).below h3) (BoxW.alloc w2 #[.nilFunc, .func (.func 61) #[] #[], .func (.func 62) #[] #[], .func (.func 63) #[] #[], .func (.func 64) #[] #[], .func (.func 65) #[] #[], .func (.func 66) #[] #[], .func (.func 67) #[] #[], .func (.func 68) #[] #[]] 84)))
  clear hb h3 HF HX
  have q0 : (w2.alloc (.cells #[.nilFunc, .func (.func 61) #[] #[], .func (.func 62) #[] #[], .func (.func 63) #[] #[], .func (.func 64) #[] #[], .func (.func 65) #[] #[], .func (.func 66) #[] #[], .func (.func 67) #[] #[], .func (.func 68) #[] #[]] 84)).cell? ⟨w.heap.size, 0, none⟩ = some (.int .i64 4) := HB.out.2.1.1 0 _ rfl
  have q1 : (w2.alloc (.cells #[.nilFunc, .func (.func 61) #[] #[], .func (.func 62) #[] #[], .func (.func 63) #[] #[], .func (.func 64) #[] #[], .func (.func 65) #[] #[], .func (.func 66) #[] #[], .func (.func 67) #[] #[], .func (.func 68) #[] #[]] 84)).cell? ⟨w.heap.size, 1, none⟩ = some (.string (tx nm)) := HB.out.2.1.1 1 _ rfl
  have q2 : (w2.alloc (.cells #[.nilFunc, .func (.func 61) #[] #[], .func (.func 62) #[] #[], .func (.func 63) #[] #[], .func (.func 64) #[] #[], .func (.func 65) #[] #[], .func (.func 66) #[] #[], .func (.func 67) #[] #[], .func (.func 68) #[] #[]] 84)).cell? ⟨w.heap.size, 2, none⟩ = some (.bool f) := HB.out.2.1.1 2 _ rfl
  have q3 : (w2.alloc (.cells #[.nilFunc, .func (.func 61) #[] #[], .func (.func 62) #[] #[], .func (.func 63) #[] #[], .func (.func 64) #[] #[], .func (.func 65) #[] #[], .func (.func 66) #[] #[], .func (.func 67) #[] #[], .func (.func 68) #[] #[]] 84)).cell? ⟨w.heap.size, 3, none⟩ = some (.int .u64 u) := HB.out.2.1.1 3 _ rfl
  have q4 : (w2.alloc (.cells #[.nilFunc, .func (.func 61) #[] #[], .func (.func 62) #[] #[], .func (.func 63) #[] #[], .func (.func 64) #[] #[], .func (.func 65) #[] #[], .func (.func 66) #[] #[], .func (.func 67) #[] #[], .func (.func 68) #[] #[]] 84)).cell? ⟨w.heap.size, 4, none⟩ = some (.slice ap np cp) := HB.out.2.1.1 4 _ rfl
  have q5 : (w2.alloc (.cells #[.nilFunc, .func (.func 61) #[] #[], .func (.func 62) #[] #[], .func (.func 63) #[] #[], .func (.func 64) #[] #[], .func (.func 65) #[] #[], .func (.func 66) #[] #[], .func (.func 67) #[] #[], .func (.func 68) #[] #[]] 84)).cell? ⟨w.heap.size, 5, none⟩ = some (.slice ak nk ck) := HB.out.2.1.1 5 _ rfl
  have q6 : (w2.alloc (.cells #[.nilFunc, .func (.func 61) #[] #[], .func (.func 62) #[] #[], .func (.func 63) #[] #[], .func (.func 64) #[] #[], .func (.func 65) #[] #[], .func (.func 66) #[] #[], .func (.func 67) #[] #[], .func (.func 68) #[] #[]] 84)).cell? ⟨w.heap.size, 6, none⟩ = some (.slice ab nb cb) := HB.out.2.1.1 6 _ rfl
  have q7 : (w2.alloc (.cells #[.nilFunc, .func (.func 61) #[] #[], .func (.func 62) #[] #[], .func (.func 63) #[] #[], .func (.func 64) #[] #[], .func (.func 65) #[] #[], .func (.func 66) #[] #[], .func (.func 67) #[] #[], .func (.func 68) #[] #[]] 84)).cell? ⟨w.heap.size, 7, none⟩ = some (.slice aa na ca) := HB.out.2.1.1 7 _ rfl
  go_upto_region 4 with fail
  generalize (w2.alloc (.cells #[.nilFunc, .func (.func 61) #[] #[], .func (.func 62) #[] #[], .func (.func 63) #[] #[], .func (.func 64) #[] #[], .func (.func 65) #[] #[], .func (.func 66) #[] #[], .func (.func 67) #[] #[], .func (.func 68) #[] #[]] 84)) = W at *
  have HS := Hd (fun (V : World) (hb : Below W.heap.size W V) => (⟨(HB.out.2.1.below hb).1 0 _ rfl, (HB.out.2.1.below hb).1 1 _ rfl, (HB.out.2.1.below hb).1 2 _ rfl, (HB.out.2.1.below hb).1 3 _ rfl, (HB.out.2.1.below hb).1 4 _ rfl, (HB.out.2.1.below hb).1 5 _ rfl, (HB.out.2.1.below hb).1 6 _ rfl, (HB.out.2.1.below hb).1 7 _ rfl, (HB.out.2.2.below hb).1 4 _ rfl⟩ : V.cell? ⟨w.heap.size, 0, none⟩ = some (.int .i64 4) ∧ V.cell? ⟨w.heap.size, 1, none⟩ = some (.string (tx nm)) ∧ V.cell? ⟨w.heap.size, 2, none⟩ = some (.bool f) ∧ V.cell? ⟨w.heap.size, 3, none⟩ = some (.int .u64 u) ∧ V.cell? ⟨w.heap.size, 4, none⟩ = some (.slice ap np cp) ∧ V.cell? ⟨w.heap.size, 5, none⟩ = some (.slice ak nk ck) ∧ V.cell? ⟨w.heap.size, 6, none⟩ = some (.slice ab nb cb) ∧ V.cell? ⟨w.heap.size, 7, none⟩ = some (.slice aa na ca) ∧ V.cell? ⟨w2.heap.size, 4, none⟩ = some (.func (.func 64) #[] #[])))
  have q8 : W.cell? ⟨w2.heap.size, 4, none⟩ = some (.func (.func 64) #[] #[]) := HB.out.2.2.1 4 _ rfl
  go_region_held3 (fun W' => W'.cell? ⟨w.heap.size, 0, none⟩ = some (.int .i64 4) ∧ W'.cell? ⟨w.heap.size, 1, none⟩ = some (.string (tx nm)) ∧ W'.cell? ⟨w.heap.size, 2, none⟩ = some (.bool f) ∧ W'.cell? ⟨w.heap.size, 3, none⟩ = some (.int .u64 u) ∧ W'.cell? ⟨w.heap.size, 4, none⟩ = some (.slice ap np cp) ∧ W'.cell? ⟨w.heap.size, 5, none⟩ = some (.slice ak nk ck) ∧ W'.cell? ⟨w.heap.size, 6, none⟩ = some (.slice ab nb cb) ∧ W'.cell? ⟨w.heap.size, 7, none⟩ = some (.slice aa na ca) ∧ W'.cell? ⟨w2.heap.size, 4, none⟩ = some (.func (.func 64) #[] #[])) (first | exact HS.out _ H4 | exact HS.out _ Br | go_keep) (
    (go_at_call 64
     refine (HK.out _ (onB' HB.out.1 (by first  | exact Br.drew | exact Below.refl _ _))).mono ?_
     rintro e w4 ⟨rfl, hb4⟩
     have H4 : Below W.heap.size W w4 := onB' (by first  | exact Br.drew | exact Below.refl _ _) hb4
     clear hb4))
  all_goals go_wp2_with fail
  all_goals go_ret
  all_goals exact ⟨rfl, onB' HB.out.1 H4⟩
theorem text_k5 (R : List UInt8) (nm : Nm) (f : Bool) (u : Int) (ap : Option Addr) (np cp : Nat) (ak : Option Addr) (nk ck : Nat) (ab : Option Addr) (nb cb : Nat) (aa : Option Addr) (na ca : Nat) (w : World) (hk : ∀ V, Below w.heap.size w V → Calls Tryz.prog 65 #[.agg #[.int .i64 5, .string (tx nm), .bool f, .int .u64 u, .slice ap np cp, .slice ak nk ck, .slice ab nb cb, .slice aa na ca]] V fun e w' => e = .returned (.string (tx R)) ∧ Below V.heap.size V w') :
    Calls Tryz.prog 15 #[.agg #[.int .i64 5, .string (tx nm), .bool f, .int .u64 u, .slice ap np cp, .slice ak nk ck, .slice ab nb cb, .slice aa na ca]] w fun e w' => e = .returned (.string (tx R)) ∧ Below w.heap.size w w' := by
  have hx := (Below.refl w.heap.size w).alloc Nr (.cells #[.int .i64 5, .string (tx nm), .bool f, .int .u64 u, .slice ap np cp, .slice ak nk ck, .slice ab nb cb, .slice aa na ca] 48)
  have HX := Hd (Ai hx (BoxW.alloc w #[.int .i64 5, .string (tx nm), .bool f, .int .u64 u, .slice ap np cp, .slice ak nk ck, .slice ab nb cb, .slice aa na ca] 48))
  have HF := Hd (forms_any (w.alloc (.cells #[.int .i64 5, .string (tx nm), .bool f, .int .u64 u, .slice ap np cp, .slice ak nk ck, .slice ab nb cb, .slice aa na ca] 48)))
  have HK := Hd hk
  have hmf := func_made
  clear hx hk
  go_enter Tryz.func15, Tryz.ntmps15
  go_wp2_with fail
  refine HF.out.mono ?_
  rintro e w2 ⟨rfl, hb⟩
  have h3 := (Below.refl w2.heap.size w2).alloc Nr (.cells #[.nilFunc, .func (.func 61) #[] #[], .func (.func 62) #[] #[], .func (.func 63) #[] #[], .func (.func 64) #[] #[], .func (.func 65) #[] #[], .func (.func 66) #[] #[], .func (.func 67) #[] #[], .func (.func 68) #[] #[]] 84)
  have HB := Hd (Ai (onB' (onB' HX.out.1 hb) h3) (Ai ((HX.out.2.below hb).below h3) (BoxW.alloc w2 #[.nilFunc, .func (.func 61) #[] #[], .func (.func 62) #[] #[], .func (.func 63) #[] #[], .func (.func 64) #[] #[], .func (.func 65) #[] #[], .func (.func 66) #[] #[], .func (.func 67) #[] #[], .func (.func 68) #[] #[]] 84)))
  clear hb h3 HF HX
  have q0 : (w2.alloc (.cells #[.nilFunc, .func (.func 61) #[] #[], .func (.func 62) #[] #[], .func (.func 63) #[] #[], .func (.func 64) #[] #[], .func (.func 65) #[] #[], .func (.func 66) #[] #[], .func (.func 67) #[] #[], .func (.func 68) #[] #[]] 84)).cell? ⟨w.heap.size, 0, none⟩ = some (.int .i64 5) := HB.out.2.1.1 0 _ rfl
  have q1 : (w2.alloc (.cells #[.nilFunc, .func (.func 61) #[] #[], .func (.func 62) #[] #[], .func (.func 63) #[] #[], .func (.func 64) #[] #[], .func (.func 65) #[] #[], .func (.func 66) #[] #[], .func (.func 67) #[] #[], .func (.func 68) #[] #[]] 84)).cell? ⟨w.heap.size, 1, none⟩ = some (.string (tx nm)) := HB.out.2.1.1 1 _ rfl
  have q2 : (w2.alloc (.cells #[.nilFunc, .func (.func 61) #[] #[], .func (.func 62) #[] #[], .func (.func 63) #[] #[], .func (.func 64) #[] #[], .func (.func 65) #[] #[], .func (.func 66) #[] #[], .func (.func 67) #[] #[], .func (.func 68) #[] #[]] 84)).cell? ⟨w.heap.size, 2, none⟩ = some (.bool f) := HB.out.2.1.1 2 _ rfl
  have q3 : (w2.alloc (.cells #[.nilFunc, .func (.func 61) #[] #[], .func (.func 62) #[] #[], .func (.func 63) #[] #[], .func (.func 64) #[] #[], .func (.func 65) #[] #[], .func (.func 66) #[] #[], .func (.func 67) #[] #[], .func (.func 68) #[] #[]] 84)).cell? ⟨w.heap.size, 3, none⟩ = some (.int .u64 u) := HB.out.2.1.1 3 _ rfl
  have q4 : (w2.alloc (.cells #[.nilFunc, .func (.func 61) #[] #[], .func (.func 62) #[] #[], .func (.func 63) #[] #[], .func (.func 64) #[] #[], .func (.func 65) #[] #[], .func (.func 66) #[] #[], .func (.func 67) #[] #[], .func (.func 68) #[] #[]] 84)).cell? ⟨w.heap.size, 4, none⟩ = some (.slice ap np cp) := HB.out.2.1.1 4 _ rfl
  have q5 : (w2.alloc (.cells #[.nilFunc, .func (.func 61) #[] #[], .func (.func 62) #[] #[], .func (.func 63) #[] #[], .func (.func 64) #[] #[], .func (.func 65) #[] #[], .func (.func 66) #[] #[], .func (.func 67) #[] #[], .func (.func 68) #[] #[]] 84)).cell? ⟨w.heap.size, 5, none⟩ = some (.slice ak nk ck) := HB.out.2.1.1 5 _ rfl
  have q6 : (w2.alloc (.cells #[.nilFunc, .func (.func 61) #[] #[], .func (.func 62) #[] #[], .func (.func 63) #[] #[], .func (.func 64) #[] #[], .func (.func 65) #[] #[], .func (.func 66) #[] #[], .func (.func 67) #[] #[], .func (.func 68) #[] #[]] 84)).cell? ⟨w.heap.size, 6, none⟩ = some (.slice ab nb cb) := HB.out.2.1.1 6 _ rfl
  have q7 : (w2.alloc (.cells #[.nilFunc, .func (.func 61) #[] #[], .func (.func 62) #[] #[], .func (.func 63) #[] #[], .func (.func 64) #[] #[], .func (.func 65) #[] #[], .func (.func 66) #[] #[], .func (.func 67) #[] #[], .func (.func 68) #[] #[]] 84)).cell? ⟨w.heap.size, 7, none⟩ = some (.slice aa na ca) := HB.out.2.1.1 7 _ rfl
  go_upto_region 4 with fail
  generalize (w2.alloc (.cells #[.nilFunc, .func (.func 61) #[] #[], .func (.func 62) #[] #[], .func (.func 63) #[] #[], .func (.func 64) #[] #[], .func (.func 65) #[] #[], .func (.func 66) #[] #[], .func (.func 67) #[] #[], .func (.func 68) #[] #[]] 84)) = W at *
  have HS := Hd (fun (V : World) (hb : Below W.heap.size W V) => (⟨(HB.out.2.1.below hb).1 0 _ rfl, (HB.out.2.1.below hb).1 1 _ rfl, (HB.out.2.1.below hb).1 2 _ rfl, (HB.out.2.1.below hb).1 3 _ rfl, (HB.out.2.1.below hb).1 4 _ rfl, (HB.out.2.1.below hb).1 5 _ rfl, (HB.out.2.1.below hb).1 6 _ rfl, (HB.out.2.1.below hb).1 7 _ rfl, (HB.out.2.2.below hb).1 5 _ rfl⟩ : V.cell? ⟨w.heap.size, 0, none⟩ = some (.int .i64 5) ∧ V.cell? ⟨w.heap.size, 1, none⟩ = some (.string (tx nm)) ∧ V.cell? ⟨w.heap.size, 2, none⟩ = some (.bool f) ∧ V.cell? ⟨w.heap.size, 3, none⟩ = some (.int .u64 u) ∧ V.cell? ⟨w.heap.size, 4, none⟩ = some (.slice ap np cp) ∧ V.cell? ⟨w.heap.size, 5, none⟩ = some (.slice ak nk ck) ∧ V.cell? ⟨w.heap.size, 6, none⟩ = some (.slice ab nb cb) ∧ V.cell? ⟨w.heap.size, 7, none⟩ = some (.slice aa na ca) ∧ V.cell? ⟨w2.heap.size, 5, none⟩ = some (.func (.func 65) #[] #[])))
  have q8 : W.cell? ⟨w2.heap.size, 5, none⟩ = some (.func (.func 65) #[] #[]) := HB.out.2.2.1 5 _ rfl
  go_region_held3 (fun W' => W'.cell? ⟨w.heap.size, 0, none⟩ = some (.int .i64 5) ∧ W'.cell? ⟨w.heap.size, 1, none⟩ = some (.string (tx nm)) ∧ W'.cell? ⟨w.heap.size, 2, none⟩ = some (.bool f) ∧ W'.cell? ⟨w.heap.size, 3, none⟩ = some (.int .u64 u) ∧ W'.cell? ⟨w.heap.size, 4, none⟩ = some (.slice ap np cp) ∧ W'.cell? ⟨w.heap.size, 5, none⟩ = some (.slice ak nk ck) ∧ W'.cell? ⟨w.heap.size, 6, none⟩ = some (.slice ab nb cb) ∧ W'.cell? ⟨w.heap.size, 7, none⟩ = some (.slice aa na ca) ∧ W'.cell? ⟨w2.heap.size, 5, none⟩ = some (.func (.func 65) #[] #[])) (first | exact HS.out _ H4 | exact HS.out _ Br | go_keep) (
    (go_at_call 65
     refine (HK.out _ (onB' HB.out.1 (by first  | exact Br.drew | exact Below.refl _ _))).mono ?_
     rintro e w4 ⟨rfl, hb4⟩
     have H4 : Below W.heap.size W w4 := onB' (by first  | exact Br.drew | exact Below.refl _ _) hb4
     clear hb4))
  all_goals go_wp2_with fail
  all_goals go_ret
  all_goals exact ⟨rfl, onB' HB.out.1 H4⟩
theorem text_k6 (R : List UInt8) (nm : Nm) (f : Bool) (u : Int) (ap : Option Addr) (np cp : Nat) (ak : Option Addr) (nk ck : Nat) (ab : Option Addr) (nb cb : Nat) (aa : Option Addr) (na ca : Nat) (w : World) (hk : ∀ V, Below w.heap.size w V → Calls Tryz.prog 66 #[.agg #[.int .i64 6, .string (tx nm), .bool f, .int .u64 u, .slice ap np cp, .slice ak nk ck, .slice ab nb cb, .slice aa na ca]] V fun e w' => e = .returned (.string (tx R)) ∧ Below V.heap.size V w') :
    Calls Tryz.prog 15 #[.agg #[.int .i64 6, .string (tx nm), .bool f, .int .u64 u, .slice ap np cp, .slice ak nk ck, .slice ab nb cb, .slice aa na ca]] w fun e w' => e = .returned (.string (tx R)) ∧ Below w.heap.size w w' := by
  have hx := (Below.refl w.heap.size w).alloc Nr (.cells #[.int .i64 6, .string (tx nm), .bool f, .int .u64 u, .slice ap np cp, .slice ak nk ck, .slice ab nb cb, .slice aa na ca] 48)
  have HX := Hd (Ai hx (BoxW.alloc w #[.int .i64 6, .string (tx nm), .bool f, .int .u64 u, .slice ap np cp, .slice ak nk ck, .slice ab nb cb, .slice aa na ca] 48))
  have HF := Hd (forms_any (w.alloc (.cells #[.int .i64 6, .string (tx nm), .bool f, .int .u64 u, .slice ap np cp, .slice ak nk ck, .slice ab nb cb, .slice aa na ca] 48)))
  have HK := Hd hk
  have hmf := func_made
  clear hx hk
  go_enter Tryz.func15, Tryz.ntmps15
  go_wp2_with fail
  refine HF.out.mono ?_
  rintro e w2 ⟨rfl, hb⟩
  have h3 := (Below.refl w2.heap.size w2).alloc Nr (.cells #[.nilFunc, .func (.func 61) #[] #[], .func (.func 62) #[] #[], .func (.func 63) #[] #[], .func (.func 64) #[] #[], .func (.func 65) #[] #[], .func (.func 66) #[] #[], .func (.func 67) #[] #[], .func (.func 68) #[] #[]] 84)
  have HB := Hd (Ai (onB' (onB' HX.out.1 hb) h3) (Ai ((HX.out.2.below hb).below h3) (BoxW.alloc w2 #[.nilFunc, .func (.func 61) #[] #[], .func (.func 62) #[] #[], .func (.func 63) #[] #[], .func (.func 64) #[] #[], .func (.func 65) #[] #[], .func (.func 66) #[] #[], .func (.func 67) #[] #[], .func (.func 68) #[] #[]] 84)))
  clear hb h3 HF HX
  have q0 : (w2.alloc (.cells #[.nilFunc, .func (.func 61) #[] #[], .func (.func 62) #[] #[], .func (.func 63) #[] #[], .func (.func 64) #[] #[], .func (.func 65) #[] #[], .func (.func 66) #[] #[], .func (.func 67) #[] #[], .func (.func 68) #[] #[]] 84)).cell? ⟨w.heap.size, 0, none⟩ = some (.int .i64 6) := HB.out.2.1.1 0 _ rfl
  have q1 : (w2.alloc (.cells #[.nilFunc, .func (.func 61) #[] #[], .func (.func 62) #[] #[], .func (.func 63) #[] #[], .func (.func 64) #[] #[], .func (.func 65) #[] #[], .func (.func 66) #[] #[], .func (.func 67) #[] #[], .func (.func 68) #[] #[]] 84)).cell? ⟨w.heap.size, 1, none⟩ = some (.string (tx nm)) := HB.out.2.1.1 1 _ rfl
  have q2 : (w2.alloc (.cells #[.nilFunc, .func (.func 61) #[] #[], .func (.func 62) #[] #[], .func (.func 63) #[] #[], .func (.func 64) #[] #[], .func (.func 65) #[] #[], .func (.func 66) #[] #[], .func (.func 67) #[] #[], .func (.func 68) #[] #[]] 84)).cell? ⟨w.heap.size, 2, none⟩ = some (.bool f) := HB.out.2.1.1 2 _ rfl
  have q3 : (w2.alloc (.cells #[.nilFunc, .func (.func 61) #[] #[], .func (.func 62) #[] #[], .func (.func 63) #[] #[], .func (.func 64) #[] #[], .func (.func 65) #[] #[], .func (.func 66) #[] #[], .func (.func 67) #[] #[], .func (.func 68) #[] #[]] 84)).cell? ⟨w.heap.size, 3, none⟩ = some (.int .u64 u) := HB.out.2.1.1 3 _ rfl
  have q4 : (w2.alloc (.cells #[.nilFunc, .func (.func 61) #[] #[], .func (.func 62) #[] #[], .func (.func 63) #[] #[], .func (.func 64) #[] #[], .func (.func 65) #[] #[], .func (.func 66) #[] #[], .func (.func 67) #[] #[], .func (.func 68) #[] #[]] 84)).cell? ⟨w.heap.size, 4, none⟩ = some (.slice ap np cp) := HB.out.2.1.1 4 _ rfl
  have q5 : (w2.alloc (.cells #[.nilFunc, .func (.func 61) #[] #[], .func (.func 62) #[] #[], .func (.func 63) #[] #[], .func (.func 64) #[] #[], .func (.func 65) #[] #[], .func (.func 66) #[] #[], .func (.func 67) #[] #[], .func (.func 68) #[] #[]] 84)).cell? ⟨w.heap.size, 5, none⟩ = some (.slice ak nk ck) := HB.out.2.1.1 5 _ rfl
  have q6 : (w2.alloc (.cells #[.nilFunc, .func (.func 61) #[] #[], .func (.func 62) #[] #[], .func (.func 63) #[] #[], .func (.func 64) #[] #[], .func (.func 65) #[] #[], .func (.func 66) #[] #[], .func (.func 67) #[] #[], .func (.func 68) #[] #[]] 84)).cell? ⟨w.heap.size, 6, none⟩ = some (.slice ab nb cb) := HB.out.2.1.1 6 _ rfl
  have q7 : (w2.alloc (.cells #[.nilFunc, .func (.func 61) #[] #[], .func (.func 62) #[] #[], .func (.func 63) #[] #[], .func (.func 64) #[] #[], .func (.func 65) #[] #[], .func (.func 66) #[] #[], .func (.func 67) #[] #[], .func (.func 68) #[] #[]] 84)).cell? ⟨w.heap.size, 7, none⟩ = some (.slice aa na ca) := HB.out.2.1.1 7 _ rfl
  go_upto_region 4 with fail
  generalize (w2.alloc (.cells #[.nilFunc, .func (.func 61) #[] #[], .func (.func 62) #[] #[], .func (.func 63) #[] #[], .func (.func 64) #[] #[], .func (.func 65) #[] #[], .func (.func 66) #[] #[], .func (.func 67) #[] #[], .func (.func 68) #[] #[]] 84)) = W at *
  have HS := Hd (fun (V : World) (hb : Below W.heap.size W V) => (⟨(HB.out.2.1.below hb).1 0 _ rfl, (HB.out.2.1.below hb).1 1 _ rfl, (HB.out.2.1.below hb).1 2 _ rfl, (HB.out.2.1.below hb).1 3 _ rfl, (HB.out.2.1.below hb).1 4 _ rfl, (HB.out.2.1.below hb).1 5 _ rfl, (HB.out.2.1.below hb).1 6 _ rfl, (HB.out.2.1.below hb).1 7 _ rfl, (HB.out.2.2.below hb).1 6 _ rfl⟩ : V.cell? ⟨w.heap.size, 0, none⟩ = some (.int .i64 6) ∧ V.cell? ⟨w.heap.size, 1, none⟩ = some (.string (tx nm)) ∧ V.cell? ⟨w.heap.size, 2, none⟩ = some (.bool f) ∧ V.cell? ⟨w.heap.size, 3, none⟩ = some (.int .u64 u) ∧ V.cell? ⟨w.heap.size, 4, none⟩ = some (.slice ap np cp) ∧ V.cell? ⟨w.heap.size, 5, none⟩ = some (.slice ak nk ck) ∧ V.cell? ⟨w.heap.size, 6, none⟩ = some (.slice ab nb cb) ∧ V.cell? ⟨w.heap.size, 7, none⟩ = some (.slice aa na ca) ∧ V.cell? ⟨w2.heap.size, 6, none⟩ = some (.func (.func 66) #[] #[])))
  have q8 : W.cell? ⟨w2.heap.size, 6, none⟩ = some (.func (.func 66) #[] #[]) := HB.out.2.2.1 6 _ rfl
  go_region_held3 (fun W' => W'.cell? ⟨w.heap.size, 0, none⟩ = some (.int .i64 6) ∧ W'.cell? ⟨w.heap.size, 1, none⟩ = some (.string (tx nm)) ∧ W'.cell? ⟨w.heap.size, 2, none⟩ = some (.bool f) ∧ W'.cell? ⟨w.heap.size, 3, none⟩ = some (.int .u64 u) ∧ W'.cell? ⟨w.heap.size, 4, none⟩ = some (.slice ap np cp) ∧ W'.cell? ⟨w.heap.size, 5, none⟩ = some (.slice ak nk ck) ∧ W'.cell? ⟨w.heap.size, 6, none⟩ = some (.slice ab nb cb) ∧ W'.cell? ⟨w.heap.size, 7, none⟩ = some (.slice aa na ca) ∧ W'.cell? ⟨w2.heap.size, 6, none⟩ = some (.func (.func 66) #[] #[])) (first | exact HS.out _ H4 | exact HS.out _ Br | go_keep) (
    (go_at_call 66
     refine (HK.out _ (onB' HB.out.1 (by first  | exact Br.drew | exact Below.refl _ _))).mono ?_
     rintro e w4 ⟨rfl, hb4⟩
     have H4 : Below W.heap.size W w4 := onB' (by first  | exact Br.drew | exact Below.refl _ _) hb4
     clear hb4))
  all_goals go_wp2_with fail
  all_goals go_ret
  all_goals exact ⟨rfl, onB' HB.out.1 H4⟩
theorem text_k7 (R : List UInt8) (nm : Nm) (f : Bool) (u : Int) (ap : Option Addr) (np cp : Nat) (ak : Option Addr) (nk ck : Nat) (ab : Option Addr) (nb cb : Nat) (aa : Option Addr) (na ca : Nat) (w : World) (hk : ∀ V, Below w.heap.size w V → Calls Tryz.prog 67 #[.agg #[.int .i64 7, .string (tx nm), .bool f, .int .u64 u, .slice ap np cp, .slice ak nk ck, .slice ab nb cb, .slice aa na ca]] V fun e w' => e = .returned (.string (tx R)) ∧ Below V.heap.size V w') :
    Calls Tryz.prog 15 #[.agg #[.int .i64 7, .string (tx nm), .bool f, .int .u64 u, .slice ap np cp, .slice ak nk ck, .slice ab nb cb, .slice aa na ca]] w fun e w' => e = .returned (.string (tx R)) ∧ Below w.heap.size w w' := by
  have hx := (Below.refl w.heap.size w).alloc Nr (.cells #[.int .i64 7, .string (tx nm), .bool f, .int .u64 u, .slice ap np cp, .slice ak nk ck, .slice ab nb cb, .slice aa na ca] 48)
  have HX := Hd (Ai hx (BoxW.alloc w #[.int .i64 7, .string (tx nm), .bool f, .int .u64 u, .slice ap np cp, .slice ak nk ck, .slice ab nb cb, .slice aa na ca] 48))
  have HF := Hd (forms_any (w.alloc (.cells #[.int .i64 7, .string (tx nm), .bool f, .int .u64 u, .slice ap np cp, .slice ak nk ck, .slice ab nb cb, .slice aa na ca] 48)))
  have HK := Hd hk
  have hmf := func_made
  clear hx hk
  go_enter Tryz.func15, Tryz.ntmps15
  go_wp2_with fail
  refine HF.out.mono ?_
  rintro e w2 ⟨rfl, hb⟩
  have h3 := (Below.refl w2.heap.size w2).alloc Nr (.cells #[.nilFunc, .func (.func 61) #[] #[], .func (.func 62) #[] #[], .func (.func 63) #[] #[], .func (.func 64) #[] #[], .func (.func 65) #[] #[], .func (.func 66) #[] #[], .func (.func 67) #[] #[], .func (.func 68) #[] #[]] 84)
  have HB := Hd (Ai (onB' (onB' HX.out.1 hb) h3) (Ai ((HX.out.2.below hb).below h3) (BoxW.alloc w2 #[.nilFunc, .func (.func 61) #[] #[], .func (.func 62) #[] #[], .func (.func 63) #[] #[], .func (.func 64) #[] #[], .func (.func 65) #[] #[], .func (.func 66) #[] #[], .func (.func 67) #[] #[], .func (.func 68) #[] #[]] 84)))
  clear hb h3 HF HX
  have q0 : (w2.alloc (.cells #[.nilFunc, .func (.func 61) #[] #[], .func (.func 62) #[] #[], .func (.func 63) #[] #[], .func (.func 64) #[] #[], .func (.func 65) #[] #[], .func (.func 66) #[] #[], .func (.func 67) #[] #[], .func (.func 68) #[] #[]] 84)).cell? ⟨w.heap.size, 0, none⟩ = some (.int .i64 7) := HB.out.2.1.1 0 _ rfl
  have q1 : (w2.alloc (.cells #[.nilFunc, .func (.func 61) #[] #[], .func (.func 62) #[] #[], .func (.func 63) #[] #[], .func (.func 64) #[] #[], .func (.func 65) #[] #[], .func (.func 66) #[] #[], .func (.func 67) #[] #[], .func (.func 68) #[] #[]] 84)).cell? ⟨w.heap.size, 1, none⟩ = some (.string (tx nm)) := HB.out.2.1.1 1 _ rfl
  have q2 : (w2.alloc (.cells #[.nilFunc, .func (.func 61) #[] #[], .func (.func 62) #[] #[], .func (.func 63) #[] #[], .func (.func 64) #[] #[], .func (.func 65) #[] #[], .func (.func 66) #[] #[], .func (.func 67) #[] #[], .func (.func 68) #[] #[]] 84)).cell? ⟨w.heap.size, 2, none⟩ = some (.bool f) := HB.out.2.1.1 2 _ rfl
  have q3 : (w2.alloc (.cells #[.nilFunc, .func (.func 61) #[] #[], .func (.func 62) #[] #[], .func (.func 63) #[] #[], .func (.func 64) #[] #[], .func (.func 65) #[] #[], .func (.func 66) #[] #[], .func (.func 67) #[] #[], .func (.func 68) #[] #[]] 84)).cell? ⟨w.heap.size, 3, none⟩ = some (.int .u64 u) := HB.out.2.1.1 3 _ rfl
  have q4 : (w2.alloc (.cells #[.nilFunc, .func (.func 61) #[] #[], .func (.func 62) #[] #[], .func (.func 63) #[] #[], .func (.func 64) #[] #[], .func (.func 65) #[] #[], .func (.func 66) #[] #[], .func (.func 67) #[] #[], .func (.func 68) #[] #[]] 84)).cell? ⟨w.heap.size, 4, none⟩ = some (.slice ap np cp) := HB.out.2.1.1 4 _ rfl
  have q5 : (w2.alloc (.cells #[.nilFunc, .func (.func 61) #[] #[], .func (.func 62) #[] #[], .func (.func 63) #[] #[], .func (.func 64) #[] #[], .func (.func 65) #[] #[], .func (.func 66) #[] #[], .func (.func 67) #[] #[], .func (.func 68) #[] #[]] 84)).cell? ⟨w.heap.size, 5, none⟩ = some (.slice ak nk ck) := HB.out.2.1.1 5 _ rfl
  have q6 : (w2.alloc (.cells #[.nilFunc, .func (.func 61) #[] #[], .func (.func 62) #[] #[], .func (.func 63) #[] #[], .func (.func 64) #[] #[], .func (.func 65) #[] #[], .func (.func 66) #[] #[], .func (.func 67) #[] #[], .func (.func 68) #[] #[]] 84)).cell? ⟨w.heap.size, 6, none⟩ = some (.slice ab nb cb) := HB.out.2.1.1 6 _ rfl
  have q7 : (w2.alloc (.cells #[.nilFunc, .func (.func 61) #[] #[], .func (.func 62) #[] #[], .func (.func 63) #[] #[], .func (.func 64) #[] #[], .func (.func 65) #[] #[], .func (.func 66) #[] #[], .func (.func 67) #[] #[], .func (.func 68) #[] #[]] 84)).cell? ⟨w.heap.size, 7, none⟩ = some (.slice aa na ca) := HB.out.2.1.1 7 _ rfl
  go_upto_region 4 with fail
  generalize (w2.alloc (.cells #[.nilFunc, .func (.func 61) #[] #[], .func (.func 62) #[] #[], .func (.func 63) #[] #[], .func (.func 64) #[] #[], .func (.func 65) #[] #[], .func (.func 66) #[] #[], .func (.func 67) #[] #[], .func (.func 68) #[] #[]] 84)) = W at *
  have HS := Hd (fun (V : World) (hb : Below W.heap.size W V) => (⟨(HB.out.2.1.below hb).1 0 _ rfl, (HB.out.2.1.below hb).1 1 _ rfl, (HB.out.2.1.below hb).1 2 _ rfl, (HB.out.2.1.below hb).1 3 _ rfl, (HB.out.2.1.below hb).1 4 _ rfl, (HB.out.2.1.below hb).1 5 _ rfl, (HB.out.2.1.below hb).1 6 _ rfl, (HB.out.2.1.below hb).1 7 _ rfl, (HB.out.2.2.below hb).1 7 _ rfl⟩ : V.cell? ⟨w.heap.size, 0, none⟩ = some (.int .i64 7) ∧ V.cell? ⟨w.heap.size, 1, none⟩ = some (.string (tx nm)) ∧ V.cell? ⟨w.heap.size, 2, none⟩ = some (.bool f) ∧ V.cell? ⟨w.heap.size, 3, none⟩ = some (.int .u64 u) ∧ V.cell? ⟨w.heap.size, 4, none⟩ = some (.slice ap np cp) ∧ V.cell? ⟨w.heap.size, 5, none⟩ = some (.slice ak nk ck) ∧ V.cell? ⟨w.heap.size, 6, none⟩ = some (.slice ab nb cb) ∧ V.cell? ⟨w.heap.size, 7, none⟩ = some (.slice aa na ca) ∧ V.cell? ⟨w2.heap.size, 7, none⟩ = some (.func (.func 67) #[] #[])))
  have q8 : W.cell? ⟨w2.heap.size, 7, none⟩ = some (.func (.func 67) #[] #[]) := HB.out.2.2.1 7 _ rfl
  go_region_held3 (fun W' => W'.cell? ⟨w.heap.size, 0, none⟩ = some (.int .i64 7) ∧ W'.cell? ⟨w.heap.size, 1, none⟩ = some (.string (tx nm)) ∧ W'.cell? ⟨w.heap.size, 2, none⟩ = some (.bool f) ∧ W'.cell? ⟨w.heap.size, 3, none⟩ = some (.int .u64 u) ∧ W'.cell? ⟨w.heap.size, 4, none⟩ = some (.slice ap np cp) ∧ W'.cell? ⟨w.heap.size, 5, none⟩ = some (.slice ak nk ck) ∧ W'.cell? ⟨w.heap.size, 6, none⟩ = some (.slice ab nb cb) ∧ W'.cell? ⟨w.heap.size, 7, none⟩ = some (.slice aa na ca) ∧ W'.cell? ⟨w2.heap.size, 7, none⟩ = some (.func (.func 67) #[] #[])) (first | exact HS.out _ H4 | exact HS.out _ Br | go_keep) (
    (go_at_call 67
     refine (HK.out _ (onB' HB.out.1 (by first  | exact Br.drew | exact Below.refl _ _))).mono ?_
     rintro e w4 ⟨rfl, hb4⟩
     have H4 : Below W.heap.size W w4 := onB' (by first  | exact Br.drew | exact Below.refl _ _) hb4
     clear hb4))
  all_goals go_wp2_with fail
  all_goals go_ret
  all_goals exact ⟨rfl, onB' HB.out.1 H4⟩
theorem text_k8 (R : List UInt8) (nm : Nm) (f : Bool) (u : Int) (ap : Option Addr) (np cp : Nat) (ak : Option Addr) (nk ck : Nat) (ab : Option Addr) (nb cb : Nat) (aa : Option Addr) (na ca : Nat) (w : World) (hk : ∀ V, Below w.heap.size w V → Calls Tryz.prog 68 #[.agg #[.int .i64 8, .string (tx nm), .bool f, .int .u64 u, .slice ap np cp, .slice ak nk ck, .slice ab nb cb, .slice aa na ca]] V fun e w' => e = .returned (.string (tx R)) ∧ Below V.heap.size V w') :
    Calls Tryz.prog 15 #[.agg #[.int .i64 8, .string (tx nm), .bool f, .int .u64 u, .slice ap np cp, .slice ak nk ck, .slice ab nb cb, .slice aa na ca]] w fun e w' => e = .returned (.string (tx R)) ∧ Below w.heap.size w w' := by
  have hx := (Below.refl w.heap.size w).alloc Nr (.cells #[.int .i64 8, .string (tx nm), .bool f, .int .u64 u, .slice ap np cp, .slice ak nk ck, .slice ab nb cb, .slice aa na ca] 48)
  have HX := Hd (Ai hx (BoxW.alloc w #[.int .i64 8, .string (tx nm), .bool f, .int .u64 u, .slice ap np cp, .slice ak nk ck, .slice ab nb cb, .slice aa na ca] 48))
  have HF := Hd (forms_any (w.alloc (.cells #[.int .i64 8, .string (tx nm), .bool f, .int .u64 u, .slice ap np cp, .slice ak nk ck, .slice ab nb cb, .slice aa na ca] 48)))
  have HK := Hd hk
  have hmf := func_made
  clear hx hk
  go_enter Tryz.func15, Tryz.ntmps15
  go_wp2_with fail
  refine HF.out.mono ?_
  rintro e w2 ⟨rfl, hb⟩
  have h3 := (Below.refl w2.heap.size w2).alloc Nr (.cells #[.nilFunc, .func (.func 61) #[] #[], .func (.func 62) #[] #[], .func (.func 63) #[] #[], .func (.func 64) #[] #[], .func (.func 65) #[] #[], .func (.func 66) #[] #[], .func (.func 67) #[] #[], .func (.func 68) #[] #[]] 84)
  have HB := Hd (Ai (onB' (onB' HX.out.1 hb) h3) (Ai ((HX.out.2.below hb).below h3) (BoxW.alloc w2 #[.nilFunc, .func (.func 61) #[] #[], .func (.func 62) #[] #[], .func (.func 63) #[] #[], .func (.func 64) #[] #[], .func (.func 65) #[] #[], .func (.func 66) #[] #[], .func (.func 67) #[] #[], .func (.func 68) #[] #[]] 84)))
  clear hb h3 HF HX
  have q0 : (w2.alloc (.cells #[.nilFunc, .func (.func 61) #[] #[], .func (.func 62) #[] #[], .func (.func 63) #[] #[], .func (.func 64) #[] #[], .func (.func 65) #[] #[], .func (.func 66) #[] #[], .func (.func 67) #[] #[], .func (.func 68) #[] #[]] 84)).cell? ⟨w.heap.size, 0, none⟩ = some (.int .i64 8) := HB.out.2.1.1 0 _ rfl
  have q1 : (w2.alloc (.cells #[.nilFunc, .func (.func 61) #[] #[], .func (.func 62) #[] #[], .func (.func 63) #[] #[], .func (.func 64) #[] #[], .func (.func 65) #[] #[], .func (.func 66) #[] #[], .func (.func 67) #[] #[], .func (.func 68) #[] #[]] 84)).cell? ⟨w.heap.size, 1, none⟩ = some (.string (tx nm)) := HB.out.2.1.1 1 _ rfl
  have q2 : (w2.alloc (.cells #[.nilFunc, .func (.func 61) #[] #[], .func (.func 62) #[] #[], .func (.func 63) #[] #[], .func (.func 64) #[] #[], .func (.func 65) #[] #[], .func (.func 66) #[] #[], .func (.func 67) #[] #[], .func (.func 68) #[] #[]] 84)).cell? ⟨w.heap.size, 2, none⟩ = some (.bool f) := HB.out.2.1.1 2 _ rfl
  have q3 : (w2.alloc (.cells #[.nilFunc, .func (.func 61) #[] #[], .func (.func 62) #[] #[], .func (.func 63) #[] #[], .func (.func 64) #[] #[], .func (.func 65) #[] #[], .func (.func 66) #[] #[], .func (.func 67) #[] #[], .func (.func 68) #[] #[]] 84)).cell? ⟨w.heap.size, 3, none⟩ = some (.int .u64 u) := HB.out.2.1.1 3 _ rfl
  have q4 : (w2.alloc (.cells #[.nilFunc, .func (.func 61) #[] #[], .func (.func 62) #[] #[], .func (.func 63) #[] #[], .func (.func 64) #[] #[], .func (.func 65) #[] #[], .func (.func 66) #[] #[], .func (.func 67) #[] #[], .func (.func 68) #[] #[]] 84)).cell? ⟨w.heap.size, 4, none⟩ = some (.slice ap np cp) := HB.out.2.1.1 4 _ rfl
  have q5 : (w2.alloc (.cells #[.nilFunc, .func (.func 61) #[] #[], .func (.func 62) #[] #[], .func (.func 63) #[] #[], .func (.func 64) #[] #[], .func (.func 65) #[] #[], .func (.func 66) #[] #[], .func (.func 67) #[] #[], .func (.func 68) #[] #[]] 84)).cell? ⟨w.heap.size, 5, none⟩ = some (.slice ak nk ck) := HB.out.2.1.1 5 _ rfl
  have q6 : (w2.alloc (.cells #[.nilFunc, .func (.func 61) #[] #[], .func (.func 62) #[] #[], .func (.func 63) #[] #[], .func (.func 64) #[] #[], .func (.func 65) #[] #[], .func (.func 66) #[] #[], .func (.func 67) #[] #[], .func (.func 68) #[] #[]] 84)).cell? ⟨w.heap.size, 6, none⟩ = some (.slice ab nb cb) := HB.out.2.1.1 6 _ rfl
  have q7 : (w2.alloc (.cells #[.nilFunc, .func (.func 61) #[] #[], .func (.func 62) #[] #[], .func (.func 63) #[] #[], .func (.func 64) #[] #[], .func (.func 65) #[] #[], .func (.func 66) #[] #[], .func (.func 67) #[] #[], .func (.func 68) #[] #[]] 84)).cell? ⟨w.heap.size, 7, none⟩ = some (.slice aa na ca) := HB.out.2.1.1 7 _ rfl
  go_upto_region 4 with fail
  generalize (w2.alloc (.cells #[.nilFunc, .func (.func 61) #[] #[], .func (.func 62) #[] #[], .func (.func 63) #[] #[], .func (.func 64) #[] #[], .func (.func 65) #[] #[], .func (.func 66) #[] #[], .func (.func 67) #[] #[], .func (.func 68) #[] #[]] 84)) = W at *
  have HS := Hd (fun (V : World) (hb : Below W.heap.size W V) => (⟨(HB.out.2.1.below hb).1 0 _ rfl, (HB.out.2.1.below hb).1 1 _ rfl, (HB.out.2.1.below hb).1 2 _ rfl, (HB.out.2.1.below hb).1 3 _ rfl, (HB.out.2.1.below hb).1 4 _ rfl, (HB.out.2.1.below hb).1 5 _ rfl, (HB.out.2.1.below hb).1 6 _ rfl, (HB.out.2.1.below hb).1 7 _ rfl, (HB.out.2.2.below hb).1 8 _ rfl⟩ : V.cell? ⟨w.heap.size, 0, none⟩ = some (.int .i64 8) ∧ V.cell? ⟨w.heap.size, 1, none⟩ = some (.string (tx nm)) ∧ V.cell? ⟨w.heap.size, 2, none⟩ = some (.bool f) ∧ V.cell? ⟨w.heap.size, 3, none⟩ = some (.int .u64 u) ∧ V.cell? ⟨w.heap.size, 4, none⟩ = some (.slice ap np cp) ∧ V.cell? ⟨w.heap.size, 5, none⟩ = some (.slice ak nk ck) ∧ V.cell? ⟨w.heap.size, 6, none⟩ = some (.slice ab nb cb) ∧ V.cell? ⟨w.heap.size, 7, none⟩ = some (.slice aa na ca) ∧ V.cell? ⟨w2.heap.size, 8, none⟩ = some (.func (.func 68) #[] #[])))
  have q8 : W.cell? ⟨w2.heap.size, 8, none⟩ = some (.func (.func 68) #[] #[]) := HB.out.2.2.1 8 _ rfl
  go_region_held3 (fun W' => W'.cell? ⟨w.heap.size, 0, none⟩ = some (.int .i64 8) ∧ W'.cell? ⟨w.heap.size, 1, none⟩ = some (.string (tx nm)) ∧ W'.cell? ⟨w.heap.size, 2, none⟩ = some (.bool f) ∧ W'.cell? ⟨w.heap.size, 3, none⟩ = some (.int .u64 u) ∧ W'.cell? ⟨w.heap.size, 4, none⟩ = some (.slice ap np cp) ∧ W'.cell? ⟨w.heap.size, 5, none⟩ = some (.slice ak nk ck) ∧ W'.cell? ⟨w.heap.size, 6, none⟩ = some (.slice ab nb cb) ∧ W'.cell? ⟨w.heap.size, 7, none⟩ = some (.slice aa na ca) ∧ W'.cell? ⟨w2.heap.size, 8, none⟩ = some (.func (.func 68) #[] #[])) (first | exact HS.out _ H4 | exact HS.out _ Br | go_keep) (
    (go_at_call 68
     refine (HK.out _ (onB' HB.out.1 (by first  | exact Br.drew | exact Below.refl _ _))).mono ?_
     rintro e w4 ⟨rfl, hb4⟩
     have H4 : Below W.heap.size W w4 := onB' (by first  | exact Br.drew | exact Below.refl _ _) hb4
     clear hb4))
  all_goals go_wp2_with fail
  all_goals go_ret
  all_goals exact ⟨rfl, onB' HB.out.1 H4⟩
end Go.Proofs.YthehgcmhcioffaaGreatDoor
