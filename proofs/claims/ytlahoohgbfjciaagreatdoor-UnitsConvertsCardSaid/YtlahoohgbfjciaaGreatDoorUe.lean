/- Contracts of wide.Negated, wide.Int64 where the number does not fit. -/
import Derived.Test.YtlahoohgbfjciaaGreatDoorWa
namespace Go.Proofs.YtlahoohgbfjciaaGreatDoor
open Go.RowKit Go.Shelf

theorem acompl (V : Int) (w : World) :
    Calls Tryz.prog 42 #[wideW V] w fun e w' => e = .returned (wideW (-1 - V)) ∧ Below w.heap.size w w' := wcompl_any V w

set_option maxHeartbeats 1000000 in
theorem aneg (V : Int) (w : World) :
    Calls Tryz.prog 28 #[wideW V] w fun e w' => e = .returned (wideW (-V)) ∧ Below w.heap.size w w' := by
  have hC := fun w => acompl V w
  have hO := fun w => aof 1 w (by decide) (by decide)
  have hP := fun w => aplus (-1 - V) 1 w
  rw [show -1 - V + 1 = -V by omega] at hP
  obtain ⟨v1, hv1⟩ : ∃ t, t = hiW V := ⟨_, rfl⟩
  obtain ⟨v0, hv0⟩ : ∃ t, t = loW V := ⟨_, rfl⟩
  obtain ⟨c1, hc1⟩ : ∃ t, t = hiW (-1 - V) := ⟨_, rfl⟩
  obtain ⟨c0, hc0⟩ : ∃ t, t = loW (-1 - V) := ⟨_, rfl⟩
  obtain ⟨o1, ho1⟩ : ∃ t, t = hiW 1 := ⟨_, rfl⟩
  obtain ⟨o0, ho0⟩ : ∃ t, t = loW 1 := ⟨_, rfl⟩
  obtain ⟨h, hh⟩ : ∃ t, t = hiW (-V) := ⟨_, rfl⟩
  obtain ⟨l, hl⟩ : ∃ t, t = loW (-V) := ⟨_, rfl⟩
  simp only [wideW] at hC hO hP ⊢
  rw [← hv1, ← hv0] at hC ⊢
  rw [← hc1, ← hc0] at hC hP
  rw [← ho1, ← ho0] at hO hP
  rw [← hh, ← hl] at hP ⊢
  have HC := Lib.hid hC
  have HO := Lib.hid hO
  have HP := Lib.hid hP
  clear hC hO hP hv1 hv0 hc1 hc0 ho1 ho0 hh hl
  have c00 := cell_alloc_sl (Obj.cells #[.int .u64 0, .int .u64 0] 36) (cell_two0 w (.int .u64 v1) (.int .u64 v0) 36)
  have c01 := cell_alloc_sl (Obj.cells #[.int .u64 0, .int .u64 0] 36) (cell_two1 w (.int .u64 v1) (.int .u64 v0) 36)
  have sz := World.size_alloc w (Obj.cells #[.int .u64 v1, .int .u64 v0] 36)
  have q00 := cell_two0 (w.alloc (Obj.cells #[.int .u64 v1, .int .u64 v0] 36)) (.int .u64 0) (.int .u64 0) 36
  have q01 := cell_two1 (w.alloc (Obj.cells #[.int .u64 v1, .int .u64 v0] 36)) (.int .u64 0) (.int .u64 0) 36
  rw [sz] at q00 q01
  have q02 : ∀ o, ((w.alloc (Obj.cells #[.int .u64 v1, .int .u64 v0] 36)).alloc (Obj.cells #[.int .u64 0, .int .u64 0] 36)).frozen? ⟨w.heap.size + 1, o, none⟩ = false := fun o => by rw [← sz]; simp
  have b1 := ((Below.refl w.heap.size w).alloc (Nat.le_refl _) (Obj.cells #[.int .u64 v1, .int .u64 v0] 36)).alloc (by rw [sz]; omega) (Obj.cells #[.int .u64 0, .int .u64 0] 36)
  have sR0 : w.heap.size + 1 < ((w.alloc (Obj.cells #[.int .u64 v1, .int .u64 v0] 36)).alloc (Obj.cells #[.int .u64 0, .int .u64 0] 36)).heap.size := by rw [World.size_alloc, sz]; omega
  have sg0 : w.heap.size < ((w.alloc (Obj.cells #[.int .u64 v1, .int .u64 v0] 36)).alloc (Obj.cells #[.int .u64 0, .int .u64 0] 36)).heap.size := by omega
  obtain ⟨W0, hW⟩ : ∃ W, W = (w.alloc (Obj.cells #[.int .u64 v1, .int .u64 v0] 36)).alloc (Obj.cells #[.int .u64 0, .int .u64 0] 36) := ⟨_, rfl⟩
  rw [← hW] at c00 c01 q00 q01 q02 b1 sR0 sg0
  obtain ⟨g, hg⟩ : ∃ g, g = w.heap.size := ⟨_, rfl⟩
  obtain ⟨R, hR⟩ : ∃ R, R = w.heap.size + 1 := ⟨_, rfl⟩
  have hwR : w.heap.size ≤ R := by omega
  rw [← hg] at c00 c01 sg0
  rw [← hR] at q00 q01 q02 sR0
  have B0 := Lib.hid b1
  have HW := Lib.hid hW
  have HG := Lib.hid (And.intro hg hR)
  clear sz b1 hW hg hR
  clear c00 c01 sg0
  go_enter Tryz.func28, Tryz.ntmps28
  go_wp2_with fail
  rw [← HG.out.2, ← HG.out.1, ← HW.out]
  refine (HC.out _).mono ?_
  rintro e w1 ⟨rfl, hb⟩
  have sR1 := Nat.lt_of_lt_of_le sR0 hb.size
  have q10 := (hb.cell (p := ⟨R, 0, none⟩) sR0).trans q00
  have q11 := (hb.cell (p := ⟨R, 1, none⟩) sR0).trans q01
  have q12 := fun o => (hb.frozen (p := ⟨R, o, none⟩) sR0).trans (q02 o)
  have B1 := Lib.hid (B0.out.trans (hb.mono B0.out.size))
  clear hb sR0 q00 q01 q02
  go_wp2_with fail
  refine (HO.out _).mono ?_
  rintro e w2 ⟨rfl, hb⟩
  have sR2 := Nat.lt_of_lt_of_le sR1 hb.size
  have q20 := (hb.cell (p := ⟨R, 0, none⟩) sR1).trans q10
  have q21 := (hb.cell (p := ⟨R, 1, none⟩) sR1).trans q11
  have q22 := fun o => (hb.frozen (p := ⟨R, o, none⟩) sR1).trans (q12 o)
  have B2 := Lib.hid (B1.out.trans (hb.mono B1.out.size))
  clear hb sR1 q10 q11 q12
  go_wp2_with fail
  refine (HP.out _).mono ?_
  rintro e w3 ⟨rfl, hb⟩
  have sR3 := Nat.lt_of_lt_of_le sR2 hb.size
  have q30 := (hb.cell (p := ⟨R, 0, none⟩) sR2).trans q20
  have q31 := (hb.cell (p := ⟨R, 1, none⟩) sR2).trans q21
  have q32 := fun o => (hb.frozen (p := ⟨R, o, none⟩) sR2).trans (q22 o)
  have B3 := Lib.hid (B2.out.trans (hb.mono B2.out.size))
  clear hb sR2 q20 q21 q22
  go_wp2_with fail
  have y0 : (w3.setCell ⟨R, 0, none⟩ (.int .u64 h)).cell? ⟨R, 0, none⟩ = some (.int .u64 h) := World.cell?_setCell_same _ _ _ q30
  have y2 : (w3.setCell ⟨R, 0, none⟩ (.int .u64 h)).cell? ⟨R, 1, none⟩ = some (.int .u64 0) := (World.cell?_setCell_other _ _ _ _ (by simp)).trans q31
  have y1 : ((w3.setCell ⟨R, 0, none⟩ (.int .u64 h)).setCell ⟨R, 1, none⟩ (.int .u64 l)).cell? ⟨R, 1, none⟩ = some (.int .u64 l) := World.cell?_setCell_same _ _ _ y2
  (try simp only [Exit.inBlock, Exit.then])
  refine bodyPost_ret (by simp [results, Tryz.results28, go_sem, y0, y1]; try rfl) rfl ?_
  exact ⟨rfl, (B3.out.setCell hwR _).setCell hwR _⟩

set_option maxHeartbeats 1000000 in
theorem wint_no (V : Int) (w : World) (h0 : -170141183460469231731687303715884105728 ≤ V) (h9 : V < 170141183460469231731687303715884105728) (hno : V < -9223372036854775808 ∨ 9223372036854775808 ≤ V) :
    Calls Tryz.prog 13 #[wideW V] w fun e w' => e = .returned (.tuple #[.int .i64 0, .bool false]) ∧ Below w.heap.size w w' := by
  obtain ⟨N, hN⟩ : ∃ N, N = wrap64 (loW V) := ⟨_, rfl⟩
  have hNr : -9223372036854775808 ≤ N ∧ N < 9223372036854775808 := by rw [hN]; unfold wrap64; omega
  have ho := fun w => aof N w hNr.1 hNr.2
  have hne : ¬ (hiW N = hiW V ∧ loW N = loW V) := by
    unfold hiW loW
    omega
  have r2 := loW_range V
  have e1 : IntKind.i64.wrap (loW V) = N := by rw [IntKind.wrap_i64, hN]; unfold wrap64; rfl
  have e2 : wrap64 (loW V) = N := hN.symm
  simp only [wideW] at ho ⊢
  obtain ⟨n1, hn1⟩ : ∃ t, t = hiW N := ⟨_, rfl⟩
  obtain ⟨n0, hn0⟩ : ∃ t, t = loW N := ⟨_, rfl⟩
  rw [← hn1, ← hn0] at ho hne
  have HO := Lib.hid ho
  clear ho hNr hN hn1 hn0 h0 h9 hno
  generalize hiW V = v1, loW V = v0 at *
  have HNe := Lib.hid hne
  clear hne
  by_cases x1 : n1 = v1
  · have x0 : (n0 == v0) = false := by rw [beq_eq_false_iff_ne]; exact fun h => HNe.out ⟨x1, h⟩
    subst x1
    go_enter Tryz.func13, Tryz.ntmps13
    go_wp2_with fail
    have B0 : Below w.heap.size w (w.alloc (.cells #[.int .u64 n1, .int .u64 v0] 36)) := (Below.refl _ w).alloc (Nat.le_refl _) _
    have l0 : w.heap.size < (w.alloc (.cells #[.int .u64 n1, .int .u64 v0] 36)).heap.size := by rw [World.size_alloc]; omega
    have c0 := cell_two0 w (.int .u64 n1) (.int .u64 v0) 36
    have c1 := cell_two1 w (.int .u64 n1) (.int .u64 v0) 36
    generalize w.alloc (.cells #[.int .u64 n1, .int .u64 v0] 36) = w1 at B0 l0 c0 c1 ⊢
    have HB0 := Lib.hid B0
    clear B0 e1 e2
    go_region_held3 (fun w' => w'.cell? ⟨w.heap.size, 0, none⟩ = some (.int .u64 n1) ∧ w'.cell? ⟨w.heap.size, 1, none⟩ = some (.int .u64 v0))
      (first | go_keep | exact ⟨(hb2.cell (p := ⟨w.heap.size, 0, none⟩) l0).trans c0, (hb2.cell (p := ⟨w.heap.size, 1, none⟩) l0).trans c1⟩)
      (first | (go_at_call 9; refine (HO.out _).mono ?_; rintro e w2 ⟨rfl, hb2⟩))
    all_goals
      rename_i hHeld
      clear hHeld
      have B2 := Lib.hid (HB0.out.trans ((Below.refl w.heap.size w1).drew.trans (hb2.mono HB0.out.size)))
      clear hb2 HB0 c0 c1 l0
      go_wp2_with fail
      go_ret2
      exact ⟨rfl, B2.out⟩
  · have x0 : (n1 == v1) = false := by rw [beq_eq_false_iff_ne]; exact x1
    clear x1
    go_enter Tryz.func13, Tryz.ntmps13
    go_wp2_with fail
    have B0 : Below w.heap.size w (w.alloc (.cells #[.int .u64 v1, .int .u64 v0] 36)) := (Below.refl _ w).alloc (Nat.le_refl _) _
    have l0 : w.heap.size < (w.alloc (.cells #[.int .u64 v1, .int .u64 v0] 36)).heap.size := by rw [World.size_alloc]; omega
    have c0 := cell_two0 w (.int .u64 v1) (.int .u64 v0) 36
    have c1 := cell_two1 w (.int .u64 v1) (.int .u64 v0) 36
    generalize w.alloc (.cells #[.int .u64 v1, .int .u64 v0] 36) = w1 at B0 l0 c0 c1 ⊢
    have HB0 := Lib.hid B0
    clear B0 e1 e2
    go_region_held3 (fun w' => w'.cell? ⟨w.heap.size, 0, none⟩ = some (.int .u64 v1) ∧ w'.cell? ⟨w.heap.size, 1, none⟩ = some (.int .u64 v0))
      (first | go_keep | exact ⟨(hb2.cell (p := ⟨w.heap.size, 0, none⟩) l0).trans c0, (hb2.cell (p := ⟨w.heap.size, 1, none⟩) l0).trans c1⟩)
      (first | (go_at_call 9; refine (HO.out _).mono ?_; rintro e w2 ⟨rfl, hb2⟩))
    all_goals
      rename_i hHeld
      clear hHeld
      have B2 := Lib.hid (HB0.out.trans ((Below.refl w.heap.size w1).drew.trans (hb2.mono HB0.out.size)))
      clear hb2 HB0 c0 c1 l0
      go_wp2_with fail
      go_ret2
      exact ⟨rfl, B2.out⟩
end Go.Proofs.YtlahoohgbfjciaaGreatDoor
