/- The contract of units.quotient at every number. -/
import Derived.Test.YtlahoohgbfjciaaGreatDoorUq
namespace Go.Proofs.YtlahoohgbfjciaaGreatDoor
open Go.RowKit Go.Shelf

/-- n / (a * b), rounded half away from zero -/
def quoR (V a b : Int) : Int := if V < 0 then -quoN (-V) a b else quoN V a b

set_option maxHeartbeats 1000000 in
theorem quotient_neg (V a b : Int) (w : World) (hV : V < 0) (hV2 : -42535295865117307932921825928971026432 < V) (ha : 1 ≤ a) (ha2 : a ≤ 100000000000) (hb : 1 ≤ b) (hb2 : b ≤ 100000000000) :
    Calls Tryz.prog 12 #[wideW V, .int .i64 a, .int .i64 b] w fun e w' => e = .returned (wideW (-quoN (-V) a b)) ∧ Below w.heap.size w w' := by
  have hNg := fun w => anegative V w (by omega) (by omega)
  rw [decide_eq_true hV] at hNg
  have hC := fun w => aneg V w
  have hQ := fun w => quotient_pos (-V) a b w (by omega) (by omega) ha ha2 hb hb2
  have hN2 := fun w => aneg (quoN (-V) a b) w
  obtain ⟨v1, hv1⟩ : ∃ t, t = hiW V := ⟨_, rfl⟩
  obtain ⟨v0, hv0⟩ : ∃ t, t = loW V := ⟨_, rfl⟩
  obtain ⟨t1, ht1⟩ : ∃ t, t = hiW (-V) := ⟨_, rfl⟩
  obtain ⟨t0, ht0⟩ : ∃ t, t = loW (-V) := ⟨_, rfl⟩
  obtain ⟨x1, hx1⟩ : ∃ t, t = hiW (quoN (-V) a b) := ⟨_, rfl⟩
  obtain ⟨x0, hx0⟩ : ∃ t, t = loW (quoN (-V) a b) := ⟨_, rfl⟩
  obtain ⟨h, hh⟩ : ∃ t, t = hiW (-quoN (-V) a b) := ⟨_, rfl⟩
  obtain ⟨l, hl⟩ : ∃ t, t = loW (-quoN (-V) a b) := ⟨_, rfl⟩
  simp only [wideW] at hNg hC hQ hN2 ⊢
  rw [← hv1, ← hv0] at hNg hC ⊢
  rw [← ht1, ← ht0] at hC hQ
  rw [← hx1, ← hx0] at hQ hN2
  rw [← hh, ← hl] at hN2 ⊢
  have HNg := Lib.hid hNg
  have HC := Lib.hid hC
  have HQ := Lib.hid hQ
  have HN2 := Lib.hid hN2
  clear hNg hC hQ hN2 hv1 hv0 ht1 ht0 hx1 hx0 hh hl hV hV2 ha ha2 hb hb2
  have c00 := cell_alloc_sl (Obj.cells #[.int .u64 0, .int .u64 0] 36) (cell_two0 w (.int .u64 v1) (.int .u64 v0) 36)
  have c01 := cell_alloc_sl (Obj.cells #[.int .u64 0, .int .u64 0] 36) (cell_two1 w (.int .u64 v1) (.int .u64 v0) 36)
  have sz := World.size_alloc w (Obj.cells #[.int .u64 v1, .int .u64 v0] 36)
  have q00 := cell_two0 (w.alloc (Obj.cells #[.int .u64 v1, .int .u64 v0] 36)) (.int .u64 0) (.int .u64 0) 36
  have q01 := cell_two1 (w.alloc (Obj.cells #[.int .u64 v1, .int .u64 v0] 36)) (.int .u64 0) (.int .u64 0) 36
  rw [sz] at q00 q01
  have q02 : ∀ o, ((w.alloc (Obj.cells #[.int .u64 v1, .int .u64 v0] 36)).alloc (Obj.cells #[.int .u64 0, .int .u64 0] 36)).frozen? ⟨w.heap.size + 1, o, none⟩ = false := fun o => by rw [← sz]; simp
  have b1 := ((Below.refl w.heap.size w).alloc (Nat.le_refl _) (Obj.cells #[.int .u64 v1, .int .u64 v0] 36)).alloc (by rw [sz]; omega) (Obj.cells #[.int .u64 0, .int .u64 0] 36)
  have sR0 : w.heap.size + 1 < ((w.alloc (Obj.cells #[.int .u64 v1, .int .u64 v0] 36)).alloc (Obj.cells #[.int .u64 0, .int .u64 0] 36)).heap.size := by rw [World.size_alloc, sz]; omega
  have sg0 : w.heap.size < ((w.alloc (Obj.cells #[.int .u64 v1, .int .u64 v0] 36)).alloc (Obj.cells #[.int .u64 0, .int .u64 0] 36)).heap.size := by omega
  obtain ⟨W0, hW⟩ : ∃ W, W = (w.alloc (Obj.cells #[.int .u64 v1, .int .u64 v0] 36)).alloc (Obj.cells #[.int .u64 0, .int .u64 0] 36) := ⟨_, rfl⟩
  rw [← hW] at c00 c01 q00 q01 q02 b1 sR0 sg0
  obtain ⟨g, hg⟩ : ∃ g, g = w.heap.size := ⟨_, rfl⟩
  obtain ⟨R, hR⟩ : ∃ R, R = w.heap.size + 1 := ⟨_, rfl⟩
  have hwR : w.heap.size ≤ R := by omega
  rw [← hg] at c00 c01 sg0
  rw [← hR] at q00 q01 q02 sR0
  have B0 := Lib.hid b1
  have HW := Lib.hid hW
  have HG := Lib.hid (And.intro hg hR)
  clear sz b1 hW hg hR
  go_enter Tryz.func12, Tryz.ntmps12
  go_wp2_with fail
  rw [← HG.out.2, ← HG.out.1, ← HW.out]
  refine (HNg.out _).mono ?_
  rintro e w1 ⟨rfl, hb⟩
  have sR1 := Nat.lt_of_lt_of_le sR0 hb.size
  have q10 := (hb.cell (p := ⟨R, 0, none⟩) sR0).trans q00
  have q11 := (hb.cell (p := ⟨R, 1, none⟩) sR0).trans q01
  have q12 := fun o => (hb.frozen (p := ⟨R, o, none⟩) sR0).trans (q02 o)
  have d0 := (hb.cell (p := ⟨g, 0, none⟩) sg0).trans c00
  have d1 := (hb.cell (p := ⟨g, 1, none⟩) sg0).trans c01
  clear c00 c01 sg0
  have B1 := Lib.hid (B0.out.trans (hb.mono B0.out.size))
  clear hb sR0 q00 q01 q02
  go_wp2_with fail
  refine (HC.out _).mono ?_
  rintro e w2 ⟨rfl, hb⟩
  have sR2 := Nat.lt_of_lt_of_le sR1 hb.size
  have q20 := (hb.cell (p := ⟨R, 0, none⟩) sR1).trans q10
  have q21 := (hb.cell (p := ⟨R, 1, none⟩) sR1).trans q11
  have q22 := fun o => (hb.frozen (p := ⟨R, o, none⟩) sR1).trans (q12 o)
  clear d0 d1
  have B2 := Lib.hid (B1.out.trans (hb.mono B1.out.size))
  clear hb sR1 q10 q11 q12
  go_wp2_with fail
  refine (HQ.out _).mono ?_
  rintro e w3 ⟨rfl, hb⟩
  have sR3 := Nat.lt_of_lt_of_le sR2 hb.size
  have q30 := (hb.cell (p := ⟨R, 0, none⟩) sR2).trans q20
  have q31 := (hb.cell (p := ⟨R, 1, none⟩) sR2).trans q21
  have q32 := fun o => (hb.frozen (p := ⟨R, o, none⟩) sR2).trans (q22 o)
  have B3 := Lib.hid (B2.out.trans (hb.mono B2.out.size))
  clear hb sR2 q20 q21 q22
  go_wp2_with fail
  refine (HN2.out _).mono ?_
  rintro e w4 ⟨rfl, hb⟩
  have sR4 := Nat.lt_of_lt_of_le sR3 hb.size
  have q40 := (hb.cell (p := ⟨R, 0, none⟩) sR3).trans q30
  have q41 := (hb.cell (p := ⟨R, 1, none⟩) sR3).trans q31
  have q42 := fun o => (hb.frozen (p := ⟨R, o, none⟩) sR3).trans (q32 o)
  have B4 := Lib.hid (B3.out.trans (hb.mono B3.out.size))
  clear hb sR3 q30 q31 q32
  go_wp2_with fail
  obtain ⟨y0, y1, yb⟩ := q_fin q40 q41 B4.out hwR (.int .u64 h) (.int .u64 l)
  (try simp only [Exit.inBlock, Exit.then])
  refine bodyPost_ret (by simp [results, Tryz.results12, go_sem, y0, y1]; try rfl) rfl ?_
  exact ⟨rfl, yb⟩

theorem quotient_any (V a b : Int) (w : World) (hV : -42535295865117307932921825928971026432 < V) (hV2 : V < 42535295865117307932921825928971026432) (ha : 1 ≤ a) (ha2 : a ≤ 100000000000) (hb : 1 ≤ b) (hb2 : b ≤ 100000000000) :
    Calls Tryz.prog 12 #[wideW V, .int .i64 a, .int .i64 b] w fun e w' => e = .returned (wideW (quoR V a b)) ∧ Below w.heap.size w w' := by
  unfold quoR
  by_cases h : V < 0
  · rw [if_pos h]
    exact quotient_neg V a b w h hV ha ha2 hb hb2
  · rw [if_neg h]
    exact quotient_pos V a b w (by omega) hV2 ha ha2 hb hb2
end Go.Proofs.YtlahoohgbfjciaaGreatDoor
