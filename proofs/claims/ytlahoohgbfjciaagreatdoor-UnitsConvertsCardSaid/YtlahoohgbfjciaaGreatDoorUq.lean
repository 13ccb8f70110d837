/- The contract of units.quotient. -/
import Derived.Test.YtlahoohgbfjciaaGreatDoorUe
namespace Go.Proofs.YtlahoohgbfjciaaGreatDoor
open Go.RowKit Go.Shelf

/-- n / (a * b), rounded half away from zero, for n from 0 on -/
def quoN (V a b : Int) : Int := (2 * V / a + b) / (2 * b)
theorem anegative (V : Int) (w : World) (h1 : -170141183460469231731687303715884105728 ≤ V) (h2 : V < 170141183460469231731687303715884105728) :
    Calls Tryz.prog 27 #[wideW V] w fun e w' => e = .returned (.bool (decide (V < 0))) ∧ Below w.heap.size w w' := wnegative_any V w h1 h2
theorem quoN_facts (V a : Int) (hV : 0 ≤ V) (hV2 : V < 42535295865117307932921825928971026432) (ha : 1 ≤ a) : 0 ≤ 2 * V / a ∧ 2 * V / a < 85070591730234615865843651857942052864 := by
  have h1 := Int.ediv_nonneg (show 0 ≤ 2 * V by omega) (show 0 ≤ a by omega)
  have h2 := Int.ediv_le_self a (show 0 ≤ 2 * V by omega)
  omega

/-- the result's cells, as yet nothing; two blocks of the call's own -/
structure QR (w : World) (T R : Nat) (w' : World) : Prop where
  c0 : w'.cell? ⟨R, 0, none⟩ = some (.int .u64 0)
  c1 : w'.cell? ⟨R, 1, none⟩ = some (.int .u64 0)
  fz : ∀ o, w'.frozen? ⟨R, o, none⟩ = false
  ltT : T < w'.heap.size
  ltR : R < w'.heap.size
  bel : Below w.heap.size w w'
theorem QR.drew {w w' : World} {T R : Nat} (h : QR w T R w') : QR w T R w'.drew := ⟨h.c0, h.c1, h.fz, h.ltT, h.ltR, h.bel.drew⟩
theorem QR.keep {w w' w2 : World} {T R : Nat} (h : QR w T R w') (hb : Below w'.heap.size w' w2) : QR w T R w2 :=
  ⟨(hb.cell (p := ⟨R, 0, none⟩) h.ltR).trans h.c0, (hb.cell (p := ⟨R, 1, none⟩) h.ltR).trans h.c1, fun o => (hb.frozen (p := ⟨R, o, none⟩) h.ltR).trans (h.fz o), Nat.lt_of_lt_of_le h.ltT hb.size, Nat.lt_of_lt_of_le h.ltR hb.size, h.bel.trans (hb.mono h.bel.size)⟩
theorem QR.alloc {w w' : World} {T R : Nat} (h : QR w T R w') (o : Obj) : QR w T R (w'.alloc o) := h.keep ((Below.refl _ _).alloc (Nat.le_refl _) o)

def QS (w : World) (T R : Nat) (a b : Value) (w' : World) : Prop := w'.cell? ⟨T, 0, none⟩ = some a ∧ w'.cell? ⟨T, 1, none⟩ = some b ∧ QR w T R w'
theorem qs_keep {w w' w2 : World} {T R : Nat} {a b : Value} (hb : Below w'.heap.size w' w2) (h : QS w T R a b w') : QS w T R a b w2 :=
  ⟨(hb.cell (p := ⟨T, 0, none⟩) h.2.2.ltT).trans h.1, (hb.cell (p := ⟨T, 1, none⟩) h.2.2.ltT).trans h.2.1, h.2.2.keep hb⟩
theorem qs_alloc {w w' : World} {T R : Nat} {a b : Value} (o : Obj) (h : QS w T R a b w') : QS w T R a b (w'.alloc o) :=
  ⟨cell_alloc_sl _ h.1, cell_alloc_sl _ h.2.1, h.2.2.alloc _⟩
theorem qs_store {w w' : World} {T R N : Nat} {a b : Value} (hT : N ≠ T) (hR : N ≠ R) (hN : w.heap.size ≤ N) (x y : Value) (h : QS w T R a b w') : QS w T R a b ((w'.setCell ⟨N, 0, none⟩ x).setCell ⟨N, 1, none⟩ y) :=
  ⟨(World.cell?_setCell_other _ _ _ _ (fun e => hT (congrArg Addr.block e))).trans ((World.cell?_setCell_other _ _ _ _ (fun e => hT (congrArg Addr.block e))).trans h.1),
   (World.cell?_setCell_other _ _ _ _ (fun e => hT (congrArg Addr.block e))).trans ((World.cell?_setCell_other _ _ _ _ (fun e => hT (congrArg Addr.block e))).trans h.2.1),
   ⟨(World.cell?_setCell_other _ _ _ _ (fun e => hR (congrArg Addr.block e))).trans ((World.cell?_setCell_other _ _ _ _ (fun e => hR (congrArg Addr.block e))).trans h.2.2.c0),
    (World.cell?_setCell_other _ _ _ _ (fun e => hR (congrArg Addr.block e))).trans ((World.cell?_setCell_other _ _ _ _ (fun e => hR (congrArg Addr.block e))).trans h.2.2.c1),
    fun o => by rw [World.frozen?_setCell, World.frozen?_setCell]; exact h.2.2.fz o, by simpa using h.2.2.ltT, by simpa using h.2.2.ltR, (h.2.2.bel.setCell hN _).setCell hN _⟩⟩

theorem q_fin {w W : World} {R : Nat} {x y : Value} (h0 : W.cell? ⟨R, 0, none⟩ = some x) (h1 : W.cell? ⟨R, 1, none⟩ = some y) (bel : Below w.heap.size w W) (hwR : w.heap.size ≤ R) (h l : Value) :
    ((W.setCell ⟨R, 0, none⟩ h).setCell ⟨R, 1, none⟩ l).cell? ⟨R, 0, none⟩ = some h ∧ ((W.setCell ⟨R, 0, none⟩ h).setCell ⟨R, 1, none⟩ l).cell? ⟨R, 1, none⟩ = some l ∧ Below w.heap.size w ((W.setCell ⟨R, 0, none⟩ h).setCell ⟨R, 1, none⟩ l) := by
  have y0 : (W.setCell ⟨R, 0, none⟩ h).cell? ⟨R, 0, none⟩ = some h := World.cell?_setCell_same _ _ _ h0
  have y2 : (W.setCell ⟨R, 0, none⟩ h).cell? ⟨R, 1, none⟩ = some y := (World.cell?_setCell_other _ _ _ _ (by simp)).trans h1
  exact ⟨(World.cell?_setCell_other _ _ _ _ (by simp)).trans y0, World.cell?_setCell_same _ _ _ y2, (bel.setCell hwR _).setCell hwR _⟩

set_option maxRecDepth 100000 in
set_option maxHeartbeats 4000000 in
theorem quotient_pos (V a b : Int) (w : World) (hV : 0 ≤ V) (hV2 : V < 42535295865117307932921825928971026432) (ha : 1 ≤ a) (ha2 : a ≤ 100000000000) (hb : 1 ≤ b) (hb2 : b ≤ 100000000000) :
    Calls Tryz.prog 12 #[wideW V, .int .i64 a, .int .i64 b] w fun e w' => e = .returned (wideW (quoN V a b)) ∧ Below w.heap.size w w' := by
  obtain ⟨p1, p2⟩ := quoN_facts V a hV hV2 ha
  have hNg := fun w => anegative V w (by omega) (by omega)
  rw [decide_eq_false (show ¬ V < 0 by omega)] at hNg
  have hT := fun w => atimes V 2 w (by decide) (by decide)
  rw [Int.mul_comm] at hT
  have hD1 := fun w => adiv (2 * V) a.toNat w (by omega) (by omega) (by omega) (by omega)
  rw [Int.toNat_of_nonneg (show 0 ≤ a by omega)] at hD1
  have hO := fun w => aof b w (by omega) (by omega)
  have hP := fun w => aplus (2 * V / a) b w
  have hD2 := fun w => adiv (2 * V / a + b) (2 * b).toNat w (by omega) (by omega) (by omega) (by omega)
  rw [Int.toNat_of_nonneg (show 0 ≤ 2 * b by omega)] at hD2
  have e1 : IntKind.i64.wrap (2 * b) = 2 * b := IntWalk.i64_in _ ⟨by omega, by omega⟩
  have hq : (2 * V / a + b) / (2 * b) = quoN V a b := rfl
  rw [hq] at hD2
  obtain ⟨B2, hB2⟩ : ∃ t, t = 2 * b := ⟨_, rfl⟩
  rw [← hB2] at hD2 e1
  have e2 : wrap64 (2 * b) = B2 := by rw [hB2]; exact IntWalk.wrap64_in _ ⟨by omega, by omega⟩
  have e3 : 2 * b = B2 := hB2.symm
  obtain ⟨r1, hr1⟩ : ∃ t, t = 2 * V % a := ⟨_, rfl⟩
  obtain ⟨r2, hr2⟩ : ∃ t, t = (2 * V / a + b) % B2 := ⟨_, rfl⟩
  rw [← hr1] at hD1
  rw [← hr2] at hD2
  obtain ⟨v1, hv1⟩ : ∃ t, t = hiW V := ⟨_, rfl⟩
  obtain ⟨v0, hv0⟩ : ∃ t, t = loW V := ⟨_, rfl⟩
  obtain ⟨t1, ht1⟩ : ∃ t, t = hiW (2 * V) := ⟨_, rfl⟩
  obtain ⟨t0, ht0⟩ : ∃ t, t = loW (2 * V) := ⟨_, rfl⟩
  obtain ⟨x1, hx1⟩ : ∃ t, t = hiW (2 * V / a) := ⟨_, rfl⟩
  obtain ⟨x0, hx0⟩ : ∃ t, t = loW (2 * V / a) := ⟨_, rfl⟩
  obtain ⟨y1, hy1⟩ : ∃ t, t = hiW (2 * V / a + b) := ⟨_, rfl⟩
  obtain ⟨y0, hy0⟩ : ∃ t, t = loW (2 * V / a + b) := ⟨_, rfl⟩
  obtain ⟨o1, ho1⟩ : ∃ t, t = hiW b := ⟨_, rfl⟩
  obtain ⟨o0, ho0⟩ : ∃ t, t = loW b := ⟨_, rfl⟩
  obtain ⟨h, hh⟩ : ∃ t, t = hiW (quoN V a b) := ⟨_, rfl⟩
  obtain ⟨l, hl⟩ : ∃ t, t = loW (quoN V a b) := ⟨_, rfl⟩
  simp only [wideW] at hNg hT hD1 hO hP hD2 ⊢
  rw [← hv1, ← hv0] at hNg hT ⊢
  rw [← ht1, ← ht0] at hT hD1
  rw [← hx1, ← hx0] at hD1 hP
  rw [← ho1, ← ho0] at hO hP
  rw [← hy1, ← hy0] at hP hD2
  rw [← hh, ← hl] at hD2 ⊢
  have HNg := Lib.hid hNg
  have HT := Lib.hid hT
  have HD1 := Lib.hid hD1
  have HO := Lib.hid hO
  have HP := Lib.hid hP
  have HD2 := Lib.hid hD2
  clear hNg hT hD1 hO hP hD2 hv1 hv0 ht1 ht0 hx1 hx0 hy1 hy0 ho1 ho0 hh hl hr1 hr2 hq p1 p2 hV hV2 hB2 ha ha2 hb hb2
  have c00 := cell_alloc_sl (Obj.cells #[.int .u64 0, .int .u64 0] 36) (cell_two0 w (.int .u64 v1) (.int .u64 v0) 36)
  have c01 := cell_alloc_sl (Obj.cells #[.int .u64 0, .int .u64 0] 36) (cell_two1 w (.int .u64 v1) (.int .u64 v0) 36)
  have sz := World.size_alloc w (Obj.cells #[.int .u64 v1, .int .u64 v0] 36)
  have q00 := cell_two0 (w.alloc (Obj.cells #[.int .u64 v1, .int .u64 v0] 36)) (.int .u64 0) (.int .u64 0) 36
  have q01 := cell_two1 (w.alloc (Obj.cells #[.int .u64 v1, .int .u64 v0] 36)) (.int .u64 0) (.int .u64 0) 36
  rw [sz] at q00 q01
  have q02 : ∀ o, ((w.alloc (Obj.cells #[.int .u64 v1, .int .u64 v0] 36)).alloc (Obj.cells #[.int .u64 0, .int .u64 0] 36)).frozen? ⟨w.heap.size + 1, o, none⟩ = false := fun o => by rw [← sz]; simp
  have b1 := ((Below.refl w.heap.size w).alloc (Nat.le_refl _) (Obj.cells #[.int .u64 v1, .int .u64 v0] 36)).alloc (by rw [sz]; omega) (Obj.cells #[.int .u64 0, .int .u64 0] 36)
  have sR0 : w.heap.size + 1 < ((w.alloc (Obj.cells #[.int .u64 v1, .int .u64 v0] 36)).alloc (Obj.cells #[.int .u64 0, .int .u64 0] 36)).heap.size := by rw [World.size_alloc, sz]; omega
  have sg0 : w.heap.size < ((w.alloc (Obj.cells #[.int .u64 v1, .int .u64 v0] 36)).alloc (Obj.cells #[.int .u64 0, .int .u64 0] 36)).heap.size := by omega
  obtain ⟨W0, hW⟩ : ∃ W, W = (w.alloc (Obj.cells #[.int .u64 v1, .int .u64 v0] 36)).alloc (Obj.cells #[.int .u64 0, .int .u64 0] 36) := ⟨_, rfl⟩
  rw [← hW] at c00 c01 q00 q01 q02 b1 sR0 sg0
  obtain ⟨g, hg⟩ : ∃ g, g = w.heap.size := ⟨_, rfl⟩
  obtain ⟨R, hR⟩ : ∃ R, R = w.heap.size + 1 := ⟨_, rfl⟩
  have hwR : w.heap.size ≤ R := by omega
  rw [← hg] at c00 c01 sg0
  rw [← hR] at q00 q01 q02 sR0
  have B0 := Lib.hid b1
  have HW := Lib.hid hW
  have HG := Lib.hid (And.intro hg hR)
  clear sz b1 hW hg hR
  go_enter Tryz.func12, Tryz.ntmps12
  go_wp2_with fail
  rw [← HG.out.2, ← HG.out.1, ← HW.out]
  refine (HNg.out _).mono ?_
  rintro e w1 ⟨rfl, hb⟩
  have sR1 := Nat.lt_of_lt_of_le sR0 hb.size
  have q10 := (hb.cell (p := ⟨R, 0, none⟩) sR0).trans q00
  have q11 := (hb.cell (p := ⟨R, 1, none⟩) sR0).trans q01
  have q12 := fun o => (hb.frozen (p := ⟨R, o, none⟩) sR0).trans (q02 o)
  have sg1 := Nat.lt_of_lt_of_le sg0 hb.size
  have d0 := (hb.cell (p := ⟨g, 0, none⟩) sg0).trans c00
  have d1 := (hb.cell (p := ⟨g, 1, none⟩) sg0).trans c01
  clear c00 c01 sg0
  have B1 := Lib.hid (B0.out.trans (hb.mono B0.out.size))
  clear hb sR0 q00 q01 q02
  go_wp2_with fail
  refine (HT.out _).mono ?_
  rintro e w2 ⟨rfl, hb⟩
  have sR2 := Nat.lt_of_lt_of_le sR1 hb.size
  have q20 := (hb.cell (p := ⟨R, 0, none⟩) sR1).trans q10
  have q21 := (hb.cell (p := ⟨R, 1, none⟩) sR1).trans q11
  have q22 := fun o => (hb.frozen (p := ⟨R, o, none⟩) sR1).trans (q12 o)
  clear d0 d1 sg1
  have B2 := Lib.hid (B1.out.trans (hb.mono B1.out.size))
  clear hb sR1 q10 q11 q12
  go_wp2_with fail
  refine (HD1.out _).mono ?_
  rintro e w3 ⟨rfl, hb⟩
  have sR3 := Nat.lt_of_lt_of_le sR2 hb.size
  have q30 := (hb.cell (p := ⟨R, 0, none⟩) sR2).trans q20
  have q31 := (hb.cell (p := ⟨R, 1, none⟩) sR2).trans q21
  have q32 := fun o => (hb.frozen (p := ⟨R, o, none⟩) sR2).trans (q22 o)
  have B3 := Lib.hid (B2.out.trans (hb.mono B2.out.size))
  clear hb sR2 q20 q21 q22
  go_wp2_with fail
  have cT0 := cell_two0 w3 (.int .u64 x1) (.int .u64 x0) 36
  have cT1 := cell_two1 w3 (.int .u64 x1) (.int .u64 x0) 36
  have hqr : QR w w3.heap.size R (w3.alloc (Obj.cells #[.int .u64 x1, .int .u64 x0] 36)) :=
    ⟨cell_alloc_sl _ q30, cell_alloc_sl _ q31, fun o => (World.frozen?_alloc_past _ _ _ sR3).trans (q32 o), by rw [World.size_alloc]; omega, by rw [World.size_alloc]; omega, B3.out.alloc B3.out.size _⟩
  have hTR : w3.heap.size ≠ R := by omega
  have hTw : w.heap.size ≤ w3.heap.size := B3.out.size
  obtain ⟨T, hT⟩ : ∃ T, T = w3.heap.size := ⟨_, rfl⟩
  obtain ⟨W4, hW4⟩ : ∃ W4, W4 = w3.alloc (Obj.cells #[.int .u64 x1, .int .u64 x0] 36) := ⟨_, rfl⟩
  rw [← hT, ← hW4] at cT0 cT1
  rw [← hT] at hTR hTw hqr
  rw [← hW4] at hqr
  rw [← hT, ← hW4]
  have HSS := Lib.hid (show W4.cell? ⟨T, 0, none⟩ = some (.int .u64 x1) ∧ W4.cell? ⟨T, 1, none⟩ = some (.int .u64 x0) ∧ QR w T R W4 from ⟨cT0, cT1, hqr⟩)
  have HSS2 := Lib.hid (show W4.drew.cell? ⟨T, 0, none⟩ = some (.int .u64 x1) ∧ W4.drew.cell? ⟨T, 1, none⟩ = some (.int .u64 x0) ∧ QR w T R W4.drew from ⟨cT0, cT1, hqr.drew⟩)
  have hTN : W4.heap.size ≠ T := by have := hqr.ltT; omega
  have hRN : W4.heap.size ≠ R := by have := hqr.ltR; omega
  have hNw : w.heap.size ≤ W4.heap.size := hqr.bel.size
  clear hT hW4 cT0 cT1 hqr q30 q31 q32 sR3 B3
  go_region_held3 (fun w' => w'.cell? ⟨T, 0, none⟩ = some (.int .u64 x1) ∧ w'.cell? ⟨T, 1, none⟩ = some (.int .u64 x0) ∧ QR w T R w')
    (first | exact HSS.out | exact HSS2.out | exact qs_keep hb2 ‹_› | exact qs_alloc _ ‹_› | exact qs_alloc _ HS7.out | exact qs_store (by assumption) (by assumption) (by assumption) _ _ ‹_› | exact QR.drew ‹_› | go_keep)
    (first | (go_at_call 9; refine (HO.out _).mono ?_; rintro e w5 ⟨rfl, hb2⟩; have HS5 : Hid (QS w T R (.int .u64 x1) (.int .u64 x0) w5) := qs_keep hb2 ‹_›; have hT5 : w5.heap.size ≠ T := Nat.ne_of_gt HS5.out.2.2.ltT; have hR5 : w5.heap.size ≠ R := Nat.ne_of_gt HS5.out.2.2.ltR; have hw5 : w.heap.size ≤ w5.heap.size := HS5.out.2.2.bel.size; obtain ⟨hc5, hf5⟩ := bcell hb2; (try have hlW : W4.heap.size < (W4.alloc (Obj.cells #[.int .u64 0, .int .u64 0] 36)).drew.heap.size := (show W4.heap.size < (W4.alloc (Obj.cells #[.int .u64 0, .int .u64 0] 36)).heap.size by (rw [World.size_alloc]; exact Nat.lt_succ_self _))); (try have n05 : w5.cell? ⟨W4.heap.size, 0, none⟩ = some (.int .u64 0) := (hb2.cell (p := ⟨W4.heap.size, 0, none⟩) hlW).trans (cell_two0 W4 _ _ _)); (try have n15 : w5.cell? ⟨W4.heap.size, 1, none⟩ = some (.int .u64 0) := (hb2.cell (p := ⟨W4.heap.size, 1, none⟩) hlW).trans (cell_two1 W4 _ _ _)); (try have nf5 : ∀ o, w5.frozen? ⟨W4.heap.size, o, none⟩ = false := fun o => (hb2.frozen (p := ⟨W4.heap.size, o, none⟩) hlW).trans (World.frozen?_alloc_at _ _ _ _ rfl)); (try have hzW45 : W4.heap.size < w5.heap.size := by (have hsz := hb2.size; (try simp at hsz); omega))) | (go_at_call 11; refine (HP.out _).mono ?_; rintro e w6 ⟨rfl, hb2⟩; have HS6 : Hid (QS w T R (.int .u64 x1) (.int .u64 x0) w6) := qs_keep hb2 ‹_›; have hT6 : w6.heap.size ≠ T := Nat.ne_of_gt HS6.out.2.2.ltT; have hR6 : w6.heap.size ≠ R := Nat.ne_of_gt HS6.out.2.2.ltR; have hw6 : w.heap.size ≤ w6.heap.size := HS6.out.2.2.bel.size; obtain ⟨hc6, hf6⟩ := bcell hb2; (try have n06 : w6.cell? ⟨W4.heap.size, 0, none⟩ = some (.int .u64 0) := (hb2.cell (p := ⟨W4.heap.size, 0, none⟩) hzW45).trans n05); (try have n16 : w6.cell? ⟨W4.heap.size, 1, none⟩ = some (.int .u64 0) := (hb2.cell (p := ⟨W4.heap.size, 1, none⟩) hzW45).trans n15); (try have nf6 : ∀ o, w6.frozen? ⟨W4.heap.size, o, none⟩ = false := fun o => (hb2.frozen (p := ⟨W4.heap.size, o, none⟩) hzW45).trans (nf5 o)); (try have hzW46 : W4.heap.size < w6.heap.size := by (have hsz := hb2.size; (try simp at hsz); omega)); (try have hzw56 : w5.heap.size < w6.heap.size := by (have hsz := hb2.size; (try simp at hsz); omega))) | (go_at_call 29; refine (HD2.out _).mono ?_; rintro e w7 ⟨rfl, hb2⟩; have HS7 : Hid (QS w T R (.int .u64 x1) (.int .u64 x0) w7) := qs_keep hb2 ‹_›; have hT7 : w7.heap.size ≠ T := Nat.ne_of_gt HS7.out.2.2.ltT; have hR7 : w7.heap.size ≠ R := Nat.ne_of_gt HS7.out.2.2.ltR; have hw7 : w.heap.size ≤ w7.heap.size := HS7.out.2.2.bel.size; obtain ⟨hc7, hf7⟩ := bcell hb2; (try have n07 : w7.cell? ⟨W4.heap.size, 0, none⟩ = some (.int .u64 0) := (hb2.cell (p := ⟨W4.heap.size, 0, none⟩) hzW46).trans n06); (try have n17 : w7.cell? ⟨W4.heap.size, 1, none⟩ = some (.int .u64 0) := (hb2.cell (p := ⟨W4.heap.size, 1, none⟩) hzW46).trans n16); (try have nf7 : ∀ o, w7.frozen? ⟨W4.heap.size, o, none⟩ = false := fun o => (hb2.frozen (p := ⟨W4.heap.size, o, none⟩) hzW46).trans (nf6 o)); (try have hzW47 : W4.heap.size < w7.heap.size := by (have hsz := hb2.size; (try simp at hsz); omega)); (try have hzw57 : w5.heap.size < w7.heap.size := by (have hsz := hb2.size; (try simp at hsz); omega)); (try have hzw67 : w6.heap.size < w7.heap.size := by (have hsz := hb2.size; (try simp at hsz); omega))))
  all_goals
    rename_i hHeld
    have hQ := hHeld.2.2
    have QQ0 := hQ.c0
    have QQ1 := hQ.c1
    have QQ2 := hQ.fz
    have BB := Lib.hid hQ.bel
    clear hHeld hQ
    go_wp2_with fail
    obtain ⟨y0, y1, yb⟩ := q_fin QQ0 QQ1 BB.out hwR (.int .u64 h) (.int .u64 l)
    (try simp only [Exit.inBlock, Exit.then])
    refine bodyPost_ret (by simp [results, Tryz.results12, go_sem, y0, y1]; try rfl) rfl ?_
    exact ⟨rfl, yb⟩
end Go.Proofs.YtlahoohgbfjciaaGreatDoor
