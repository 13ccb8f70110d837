/- Contracts of psychro's Temperature, Mix, Economizer and what Eval calls. -/
import Derived.Test.YtgpbcdelaipifaaDoorSe
import Derived.Test.YtgpbcdelaipifaaDoorRo
namespace Go.Proofs.YtgpbcdelaipifaaDoor
open Go.RowKit Go.Shelf

set_option maxHeartbeats 2000000 in
theorem temp1_any (bc bx : Nat) (C x : Int) (i : Nat) (w : World) (hi : i < 300000) (cr : RowAt w bc [.int .i64 x]) (cx : RowAt w bx [.int .i64 C]) :
    Calls Tryd.prog 44 #[.int .i64 i, .pointer (some ⟨bc, 0, none⟩), .pointer (some ⟨bx, 0, none⟩)] w fun e w' => e = .returned (.bool (decide (C ≤ entF (-100000 + (i : Int)) x))) ∧ Below w.heap.size w w' := by
  have c1 := cr.c 0 _ rfl
  have c2 := cx.c 0 _ rfl
  have l1 := cr.lt
  have l2 := cx.lt
  obtain ⟨E, hE⟩ : ∃ m, m = entF (-100000 + (i : Int)) x := ⟨_, rfl⟩
  have hK := Lib.hid (fun w => show Calls Tryd.prog 19 #[.int .i64 (-100000 + (i : Int)), .int .i64 x] w fun e w' => e = .returned (.int .i64 E) ∧ Below w.heap.size w w' by rw [hE]; exact enthalpy_any _ _ w)
  rw [← hE]
  have HC := Lib.hid (And.intro c1 c2)
  clear hE cr cx
  have p1 : IntKind.i64.wrap (-100000 + (i : Int)) = -100000 + (i : Int) := IntWalk.i64_in _ (by omega)
  go_enter Tryd.func44, Tryd.ntmps44
  go_wp2_with fail
  go_region_held3 (fun w' => w'.cell? ⟨bc, 0, none⟩ = some (.int .i64 x) ∧ w'.cell? ⟨bx, 0, none⟩ = some (.int .i64 C))
    (first | (with_reducible exact ⟨k1, k2⟩) | (with_reducible exact HC.out) | go_keep)
    (((with_reducible refine (hK.out _).mono ?_); rintro e w2 ⟨rfl, hb2⟩; have k1 := (hb2.cell (p := ⟨bc, 0, none⟩) l1).trans HC.out.1; have k2 := (hb2.cell (p := ⟨bx, 0, none⟩) l2).trans HC.out.2))
  all_goals
    rename_i hHeld
    clear hHeld
    go_wp2_with fail
    go_ret
    exact ⟨rfl, (Below.refl w.heap.size w).drew.trans hb2⟩

set_option maxHeartbeats 2000000 in
theorem temp_any (h x : Int) (r : Nat) (w : World) (hr : LeastT h x r) :
    Calls Tryd.prog 21 #[.int .i64 h, .int .i64 x] w fun e w' => e = .returned (.int .i64 (-100000 + (r : Int))) ∧ Below w.heap.size w w' := by
  obtain ⟨hr1, hr2, hr3⟩ := hr
  obtain ⟨C, hC⟩ : ∃ c, c = clampI h := ⟨_, rfl⟩
  have hKC := Lib.hid (fun w => show Calls Tryd.prog 42 #[.int .i64 h] w fun e w' => e = .returned (.int .i64 C) ∧ w = w' by rw [hC]; exact clamp_any h w)
  rw [← hC] at hr2 hr3
  have HS := Lib.hid (fun (bc bx : Nat) (w : World) (cr : RowAt w bc [.int .i64 x]) (cx : RowAt w bx [.int .i64 C]) => search_any 44 #[.pointer (some ⟨bc, 0, none⟩), .pointer (some ⟨bx, 0, none⟩)] 300000 (fun i => decide (C ≤ entF (-100000 + (i : Int)) x)) w r (enters_of Tryd.func44 (by kernel_rfl) rfl) (by omega)
    (fun w' i hi hbel => temp1_any bc bx C x i w' hi (cr.keep hbel) (cx.keep hbel)) hr1 hr2 hr3)
  clear hC hr2 hr3
  obtain ⟨W, b, hW, hb, RB, B, sz⟩ := box1 w #[.int .i64 x] 2
  have HB := Lib.hid B
  have HR := Lib.hid RB
  go_enter Tryd.func21, Tryd.ntmps21
  go_upto_region 1 with fail
  rw [← hW]
  try rw [← hb]
  clear hW hb RB B sz
  go_wp2_with fail
  refine (hKC.out _).mono ?_
  rintro e w' ⟨rfl, rfl⟩
  obtain ⟨V, g, hV, hg, RG, BG, sg⟩ := box1 W #[.int .i64 C] 2
  have HG := Lib.hid RG
  have HR2 := Lib.hid (HR.out.keep BG)
  have HB2 := Lib.hid (below_step HB.out BG)
  go_upto_region 2 with fail
  rw [← hV]
  try rw [← hg]
  clear hV hg RG BG sg
  go_wp2_with fail
  refine (HS.out _ _ _ HR2.out HG.out).mono ?_
  rintro e w2 ⟨rfl, hb2⟩
  have HB3 := Lib.hid (below_step HB2.out hb2)
  clear hb2
  go_wp2_with fail
  go_ret
  exact ⟨rfl, HB3.out⟩

set_option maxHeartbeats 2000000 in
theorem mix1_any (bf bg : Nat) (a b f f2 : Int) (w : World) (cf : RowAt w bf [.int .i64 f]) (cg : RowAt w bg [.int .i64 f2]) (h1 : 0 ≤ f) (h2 : 0 ≤ f2) (f9 : f ≤ 1000000000) (g9 : f2 ≤ 1000000000) (a1 : -1000000 ≤ a) (a2 : a ≤ 1000000) (b1 : -1000000 ≤ b) (b2 : b ≤ 1000000) :
    Calls Tryd.prog 47 #[.int .i64 a, .int .i64 b, .pointer (some ⟨bf, 0, none⟩), .pointer (some ⟨bg, 0, none⟩)] w fun e w' => e = .returned (.int .i64 (mixF a b f f2)) ∧ Below w.heap.size w w' := by
  have c1 := cf.c 0 _ rfl
  have c2 := cg.c 0 _ rfl
  clear cf cg
  unfold mixF
  by_cases h0 : f + f2 = 0
  · have z : ((f + f2) == 0) = true := by rw [beq_iff_eq]; exact h0
    rw [if_pos h0]
    clear h0
    go_enter Tryd.func47, Tryd.ntmps47
    go_wp2_with fail
    go_ret
    exact ⟨rfl, Below.refl _ _⟩
  · have z : ((f + f2) == 0) = false := by rw [beq_eq_false_iff_ne]; exact h0
    rw [if_neg h0]
    have hr := mulDivI_range (b - a) f2 (f + f2)
    obtain ⟨M, hM⟩ : ∃ m, m = mulDivI (b - a) f2 (f + f2) := ⟨_, rfl⟩
    have hKM := Lib.hid (fun w => show Calls Tryd.prog 36 #[.int .i64 (b - a), .int .i64 f2, .int .i64 (f + f2)] w fun e w' => e = .returned (.int .i64 M) ∧ Below w.heap.size w w' by rw [hM]; exact muldiv_any _ _ _ w)
    rw [← hM] at hr ⊢
    obtain ⟨hr1, hr2⟩ := hr
    clear h0 hM
    go_enter Tryd.func47, Tryd.ntmps47
    go_wp2_with fail
    refine (hKM.out _).mono ?_
    rintro e w2 ⟨rfl, hb2⟩
    have HB := Lib.hid hb2
    clear hb2
    go_wp2_with fail
    go_ret
    exact ⟨rfl, HB.out⟩

/-- what Mix returns -/
def mixT (t f t2 f2 : Int) : Int := mixF (limI t (-100000) 200000) (limI t2 (-100000) 200000) (limI f 0 1000000000) (limI f2 0 1000000000)
def mixW (t f t2 f2 : Int) : Int := mixF (limI t 0 1000000) (limI t2 0 1000000) (limI f 0 1000000000) (limI f2 0 1000000000)
set_option maxHeartbeats 4000000 in
theorem mix_any (t u f t2 u2 f2 : Int) (w : World) :
    Calls Tryd.prog 25 #[.int .i64 t, .int .i64 u, .int .i64 f, .int .i64 t2, .int .i64 u2, .int .i64 f2] w fun e w' => e = .returned (.tuple #[.int .i64 (mixT t f t2 f2), .int .i64 (mixW u f u2 f2)]) ∧ Below w.heap.size w w' := by
  have r1 := limI_range f 0 1000000000 (by omega)
  have r2 := limI_range f2 0 1000000000 (by omega)
  have r3 := limI_range t (-100000) 200000 (by omega)
  have r4 := limI_range t2 (-100000) 200000 (by omega)
  have r5 := limI_range u 0 1000000 (by omega)
  have r6 := limI_range u2 0 1000000 (by omega)
  have HK := Lib.hid (fun (bf bg : Nat) (w : World) (cf : RowAt w bf [.int .i64 (limI f 0 1000000000)]) (cg : RowAt w bg [.int .i64 (limI f2 0 1000000000)]) => mix1_any bf bg (limI t (-100000) 200000) (limI t2 (-100000) 200000) (limI f 0 1000000000) (limI f2 0 1000000000) w cf cg (by omega) (by omega) (by omega) (by omega) (by omega) (by omega) (by omega) (by omega))
  have HL := Lib.hid (fun (bf bg : Nat) (w : World) (cf : RowAt w bf [.int .i64 (limI f 0 1000000000)]) (cg : RowAt w bg [.int .i64 (limI f2 0 1000000000)]) => mix1_any bf bg (limI u 0 1000000) (limI u2 0 1000000) (limI f 0 1000000000) (limI f2 0 1000000000) w cf cg (by omega) (by omega) (by omega) (by omega) (by omega) (by omega) (by omega) (by omega))
  clear r1 r2 r3 r4 r5 r6
  unfold mixT mixW
  go_enter Tryd.func25, Tryd.ntmps25
  go_wp2_with fail
  refine (limited_any _ _ _ _).mono ?_
  rintro e w' ⟨rfl, rfl⟩
  go_wp2_with fail
  refine (limited_any _ _ _ _).mono ?_
  rintro e w' ⟨rfl, rfl⟩
  obtain ⟨F, hF⟩ : ∃ c, c = limI f 0 1000000000 := ⟨_, rfl⟩
  obtain ⟨G, hG⟩ : ∃ c, c = limI f2 0 1000000000 := ⟨_, rfl⟩
  have HFG := Lib.hid (And.intro hF hG)
  rw [← hF, ← hG] at HK HL ⊢
  clear hF hG
  obtain ⟨W, b, b1, hW, hb, hb1, R1, R2, B, sz⟩ := box2 w #[.int .i64 F] 2 #[.int .i64 G] 2
  have HB := Lib.hid B
  have HR := Lib.hid R1
  have HR2 := Lib.hid R2
  go_upto_region 2 with fail
  rw [← hW]
  try rw [← hb1]
  try rw [← hb]
  clear hW hb hb1 R1 R2 B sz
  go_wp2_with (first | ((with_reducible refine (limT_any _ _).mono ?_); rintro e w' ⟨rfl, rfl⟩) | fail)
  refine (HK.out _ _ _ HR.out HR2.out).mono ?_
  rintro e w2 ⟨rfl, hb2⟩
  have HB2 := Lib.hid (below_step HB.out hb2)
  have HR3 := Lib.hid (HR.out.keep hb2)
  have HR4 := Lib.hid (HR2.out.keep hb2)
  clear hb2
  go_wp2_with (first | ((with_reducible refine (limR_any _ _).mono ?_); rintro e w' ⟨rfl, rfl⟩) | fail)
  refine (HL.out _ _ _ HR3.out HR4.out).mono ?_
  rintro e w2 ⟨rfl, hb2⟩
  have HB3 := Lib.hid (below_step HB2.out hb2)
  clear hb2
  go_wp2_with fail
  go_ret2
  exact ⟨by rw [← HFG.out.1, ← HFG.out.2]; rfl, HB3.out⟩

set_option maxHeartbeats 1000000 in
theorem entOf_any (t h : Int) (w : World) (ht : SatT w) :
    Calls Tryd.prog 46 #[.int .i64 t, .int .i64 h] w fun e w' => e = .returned (.int .i64 (entF t (ratF t h))) ∧ Below w.heap.size w w' := by
  have HS := Lib.hid (ratio_any t h w ht)
  go_enter Tryd.func46, Tryd.ntmps46
  go_wp2_with fail
  refine HS.out.mono ?_
  rintro e w1 ⟨rfl, hb⟩
  have HB := Lib.hid hb
  clear hb
  go_wp2_with fail
  refine (enthalpy_any _ _ _).mono ?_
  rintro e w2 ⟨rfl, hb⟩
  have HB2 := Lib.hid (below_step HB.out hb)
  clear hb
  go_wp2_with fail
  go_ret
  exact ⟨rfl, HB2.out⟩
set_option maxHeartbeats 1000000 in
theorem dewOf_any (t h : Int) (w : World) (ht : SatT w) :
    Calls Tryd.prog 60 #[.int .i64 t, .int .i64 h] w fun e w' => e = .returned (.int .i64 (dewF (ratF t h))) ∧ Below w.heap.size w w' := by
  have HS := Lib.hid (ratio_any t h w ht)
  have HD := Lib.hid (fun w1 (hb : Below w.heap.size w w1) => dew_any (ratF t h) w1 (ht.below hb))
  clear ht
  go_enter Tryd.func60, Tryd.ntmps60
  go_wp2_with fail
  refine HS.out.mono ?_
  rintro e w1 ⟨rfl, hb⟩
  have HB := Lib.hid hb
  clear hb
  go_wp2_with fail
  refine (HD.out _ HB.out).mono ?_
  rintro e w2 ⟨rfl, hb⟩
  have HB2 := Lib.hid (below_step HB.out hb)
  clear hb
  go_wp2_with fail
  go_ret
  exact ⟨rfl, HB2.out⟩
def econB (o oh i ih : Int) : Bool := decide (entF o (ratF o oh) < entF i (ratF i ih))
set_option maxHeartbeats 1000000 in
theorem econ_any (o oh i ih : Int) (w : World) (ht : SatT w) :
    Calls Tryd.prog 23 #[.int .i64 o, .int .i64 oh, .int .i64 i, .int .i64 ih] w fun e w' => e = .returned (.bool (econB o oh i ih)) ∧ Below w.heap.size w w' := by
  have HS := Lib.hid (entOf_any o oh w ht)
  have HD := Lib.hid (fun w1 (hb : Below w.heap.size w w1) => entOf_any i ih w1 (ht.below hb))
  clear ht
  go_enter Tryd.func23, Tryd.ntmps23
  go_wp2_with fail
  refine HS.out.mono ?_
  rintro e w1 ⟨rfl, hb⟩
  have HB := Lib.hid hb
  clear hb
  go_wp2_with fail
  refine (HD.out _ HB.out).mono ?_
  rintro e w2 ⟨rfl, hb⟩
  have HB2 := Lib.hid (below_step HB.out hb)
  clear hb
  go_wp2_with fail
  go_ret
  exact ⟨rfl, HB2.out⟩
end Go.Proofs.YtgpbcdelaipifaaDoor
