/- The contract of units.Convert where the number is reckoned. -/
import Derived.Test.YtlahoohgbfjciaaGreatDoorUt
namespace Go.Proofs.YtlahoohgbfjciaaGreatDoor
open Go.RowKit Go.Shelf

structure TwoAt (w : World) (b : Nat) (x y : Value) : Prop where
  c0 : w.cell? ⟨b, 0, none⟩ = some x
  c1 : w.cell? ⟨b, 1, none⟩ = some y
  fz : ∀ o, w.frozen? ⟨b, o, none⟩ = false
theorem TwoAt.put {w : World} {b : Nat} {x y : Value} (t : TwoAt w b x y) (x' y' : Value) : TwoAt ((w.setCell ⟨b, 0, none⟩ x').setCell ⟨b, 1, none⟩ y') b x' y' := by
  have y0 : (w.setCell ⟨b, 0, none⟩ x').cell? ⟨b, 0, none⟩ = some x' := World.cell?_setCell_same _ _ _ t.c0
  have y2 : (w.setCell ⟨b, 0, none⟩ x').cell? ⟨b, 1, none⟩ = some y := (World.cell?_setCell_other _ _ _ _ (by simp)).trans t.c1
  exact ⟨(World.cell?_setCell_other _ _ _ _ (by simp)).trans y0, World.cell?_setCell_same _ _ _ y2, fun o => by rw [World.frozen?_setCell, World.frozen?_setCell]; exact t.fz o⟩
theorem two_fresh (p : World) (x y : Value) (t : TypeId) : TwoAt (p.alloc (Obj.cells #[x, y] t)) p.heap.size x y :=
  ⟨cell_two0 p _ _ _, cell_two1 p _ _ _, fun _ => World.frozen?_alloc_at _ _ _ _ rfl⟩
theorem fresh_kept {p w2 : World} {x y : Value} {t : TypeId} (hb : Below (p.alloc (Obj.cells #[x, y] t)).heap.size (p.alloc (Obj.cells #[x, y] t)) w2) : TwoAt w2 p.heap.size x y := by
  have hlt : p.heap.size < (p.alloc (Obj.cells #[x, y] t)).heap.size := by rw [World.size_alloc]; exact Nat.lt_succ_self _
  exact ⟨(hb.cell (p := ⟨p.heap.size, 0, none⟩) hlt).trans (cell_two0 p _ _ _), (hb.cell (p := ⟨p.heap.size, 1, none⟩) hlt).trans (cell_two1 p _ _ _), fun o => (hb.frozen (p := ⟨p.heap.size, o, none⟩) hlt).trans (World.frozen?_alloc_at _ _ _ _ rfl)⟩
theorem fresh_kept_drew {p w2 : World} {x y : Value} {t : TypeId} (hb : Below (p.alloc (Obj.cells #[x, y] t)).drew.heap.size (p.alloc (Obj.cells #[x, y] t)).drew w2) : TwoAt w2 p.heap.size x y := by
  have hlt : p.heap.size < (p.alloc (Obj.cells #[x, y] t)).heap.size := by rw [World.size_alloc]; exact Nat.lt_succ_self _
  exact ⟨(hb.cell (p := ⟨p.heap.size, 0, none⟩) hlt).trans (cell_two0 p _ _ _), (hb.cell (p := ⟨p.heap.size, 1, none⟩) hlt).trans (cell_two1 p _ _ _), fun o => (hb.frozen (p := ⟨p.heap.size, o, none⟩) hlt).trans (World.frozen?_alloc_at _ _ _ _ rfl)⟩
theorem TwoAt.keep {w w' : World} {b : Nat} {x y : Value} (h : TwoAt w b x y) (hb : Below w.heap.size w w') : TwoAt w' b x y := by
  have hlt : b < w.heap.size := World.block_lt_of_cell? _ _ h.c0
  exact ⟨(hb.cell (p := ⟨b, 0, none⟩) hlt).trans h.c0, (hb.cell (p := ⟨b, 1, none⟩) hlt).trans h.c1, fun o => (hb.frozen (p := ⟨b, o, none⟩) hlt).trans (h.fz o)⟩
theorem two_kept {w w' : World} {b : Nat} {x y : Value} (h : TwoAt w b x y) (hb : Below w.heap.size w w') : TwoAt w' b x y := h.keep hb
theorem two_kept_drew {w w' : World} {b : Nat} {x y : Value} (h : TwoAt w b x y) (hb : Below w.drew.heap.size w.drew w') : TwoAt w' b x y := TwoAt.keep (w := w.drew) ⟨h.c0, h.c1, h.fz⟩ hb

/-- two units in memory of the call's own -/
structure CR (w : World) (g h : Nat) (u0 u1 u2 u3 un ud uo v0 v1 v2 v3 vn vd vo : Int) (w' : World) : Prop where
  u : UnitAt w' g u0 u1 u2 u3 un ud uo
  v : UnitAt w' h v0 v1 v2 v3 vn vd vo
  bel : Below w.heap.size w w'
section
variable {w w' w2 : World} {g h : Nat} {u0 u1 u2 u3 un ud uo v0 v1 v2 v3 vn vd vo : Int}
theorem CR.lt1 (c : CR w g h u0 u1 u2 u3 un ud uo v0 v1 v2 v3 vn vd vo w') : g < w'.heap.size := c.u.lt
theorem CR.lt2 (c : CR w g h u0 u1 u2 u3 un ud uo v0 v1 v2 v3 vn vd vo w') : h < w'.heap.size := c.v.lt
theorem CR.keep (c : CR w g h u0 u1 u2 u3 un ud uo v0 v1 v2 v3 vn vd vo w') (hb : Below w'.heap.size w' w2) : CR w g h u0 u1 u2 u3 un ud uo v0 v1 v2 v3 vn vd vo w2 := ⟨c.u.keep hb, c.v.keep hb, c.bel.trans (hb.mono c.bel.size)⟩
theorem cr_drew (c : CR w g h u0 u1 u2 u3 un ud uo v0 v1 v2 v3 vn vd vo w') : CR w g h u0 u1 u2 u3 un ud uo v0 v1 v2 v3 vn vd vo w'.drew := ⟨⟨c.u.c0, c.u.c1, c.u.c2, c.u.c3, c.u.c4, c.u.c5, c.u.c6, c.u.fz⟩, ⟨c.v.c0, c.v.c1, c.v.c2, c.v.c3, c.v.c4, c.v.c5, c.v.c6, c.v.fz⟩, c.bel.drew⟩
def DS (w : World) (g h N : Nat) (x y : Value) (u0 u1 u2 u3 un ud uo v0 v1 v2 v3 vn vd vo : Int) (w' : World) : Prop := w'.cell? ⟨N, 0, none⟩ = some x ∧ w'.cell? ⟨N, 1, none⟩ = some y ∧ w'.cell? ⟨h, 5, none⟩ = some (.int .i64 vd) ∧ w'.cell? ⟨g, 5, none⟩ = some (.int .i64 ud) ∧ w'.cell? ⟨h, 4, none⟩ = some (.int .i64 vn) ∧ TwoAt w' N x y ∧ CR w g h u0 u1 u2 u3 un ud uo v0 v1 v2 v3 vn vd vo w'
theorem ds_of {N : Nat} {x y : Value} (t : TwoAt w' N x y) (c : CR w g h u0 u1 u2 u3 un ud uo v0 v1 v2 v3 vn vd vo w') : DS w g h N x y u0 u1 u2 u3 un ud uo v0 v1 v2 v3 vn vd vo w' := ⟨t.c0, t.c1, c.v.c5, c.u.c5, c.v.c4, t, c⟩
theorem ds_keep {N : Nat} {x y : Value} (hb : Below w'.heap.size w' w2) (c : DS w g h N x y u0 u1 u2 u3 un ud uo v0 v1 v2 v3 vn vd vo w') : DS w g h N x y u0 u1 u2 u3 un ud uo v0 v1 v2 v3 vn vd vo w2 := ds_of (c.2.2.2.2.2.1.keep hb) (c.2.2.2.2.2.2.keep hb)
theorem ds_drew {N : Nat} {x y : Value} (c : DS w g h N x y u0 u1 u2 u3 un ud uo v0 v1 v2 v3 vn vd vo w') : DS w g h N x y u0 u1 u2 u3 un ud uo v0 v1 v2 v3 vn vd vo w'.drew := ds_of ⟨c.1, c.2.1, c.2.2.2.2.2.1.fz⟩ (cr_drew c.2.2.2.2.2.2)
def CS (w : World) (g h : Nat) (u0 u1 u2 u3 un ud uo v0 v1 v2 v3 vn vd vo : Int) (w' : World) : Prop := (w'.cell? ⟨g, 4, none⟩ = some (.int .i64 un) ∧ w'.cell? ⟨g, 6, none⟩ = some (.int .i64 uo) ∧ w'.cell? ⟨h, 6, none⟩ = some (.int .i64 vo) ∧ w'.cell? ⟨g, 5, none⟩ = some (.int .i64 ud) ∧ CR w g h u0 u1 u2 u3 un ud uo v0 v1 v2 v3 vn vd vo w')
theorem CS.cr (c : CS w g h u0 u1 u2 u3 un ud uo v0 v1 v2 v3 vn vd vo w') : CR w g h u0 u1 u2 u3 un ud uo v0 v1 v2 v3 vn vd vo w' := c.2.2.2.2
theorem cs_of (c : CR w g h u0 u1 u2 u3 un ud uo v0 v1 v2 v3 vn vd vo w') : CS w g h u0 u1 u2 u3 un ud uo v0 v1 v2 v3 vn vd vo w' := ⟨c.u.c4, c.u.c6, c.v.c6, c.u.c5, c⟩
theorem cs_keep (hb : Below w'.heap.size w' w2) (c : CS w g h u0 u1 u2 u3 un ud uo v0 v1 v2 v3 vn vd vo w') : CS w g h u0 u1 u2 u3 un ud uo v0 v1 v2 v3 vn vd vo w2 := cs_of (c.cr.keep hb)
theorem cs_alloc (o : Obj) (c : CS w g h u0 u1 u2 u3 un ud uo v0 v1 v2 v3 vn vd vo w') : CS w g h u0 u1 u2 u3 un ud uo v0 v1 v2 v3 vn vd vo (w'.alloc o) := cs_keep ((Below.refl _ _).alloc (Nat.le_refl _) o) c
theorem cs_drew (c : CS w g h u0 u1 u2 u3 un ud uo v0 v1 v2 v3 vn vd vo w') : CS w g h u0 u1 u2 u3 un ud uo v0 v1 v2 v3 vn vd vo w'.drew := cs_of (cr_drew c.cr)
theorem UnitAt.put2 {b N : Nat} {u0 u1 u2 u3 un ud uo : Int} (t : UnitAt w b u0 u1 u2 u3 un ud uo) (hne : N ≠ b) (x y : Value) : UnitAt ((w.setCell ⟨N, 0, none⟩ x).setCell ⟨N, 1, none⟩ y) b u0 u1 u2 u3 un ud uo := by
  have h : ∀ k, ((w.setCell ⟨N, 0, none⟩ x).setCell ⟨N, 1, none⟩ y).cell? ⟨b, k, none⟩ = w.cell? ⟨b, k, none⟩ := fun k => by
    iterate 2 rw [World.cell?_setCell_other _ _ _ _ (fun e => hne (congrArg Addr.block e))]
  exact ⟨(h 0).trans t.c0, (h 1).trans t.c1, (h 2).trans t.c2, (h 3).trans t.c3, (h 4).trans t.c4, (h 5).trans t.c5, (h 6).trans t.c6, fun o => by rw [World.frozen?_setCell, World.frozen?_setCell]; exact t.fz o⟩
theorem cs_store {N : Nat} (h1 : N ≠ g) (h2 : N ≠ h) (hN : w.heap.size ≤ N) (x y : Value) (c : CS w g h u0 u1 u2 u3 un ud uo v0 v1 v2 v3 vn vd vo w') : CS w g h u0 u1 u2 u3 un ud uo v0 v1 v2 v3 vn vd vo ((w'.setCell ⟨N, 0, none⟩ x).setCell ⟨N, 1, none⟩ y) :=
  cs_of ⟨c.cr.u.put2 h1 x y, c.cr.v.put2 h2 x y, (c.cr.bel.setCell hN _).setCell hN _⟩
end
theorem conv_ranges {x u0 u1 u2 u3 un ud uo v0 v1 v2 v3 vn vd vo : Int} (h1 : validB ⟨u0, u1, u2, u3, un, ud, uo⟩ = true) (h2 : validB ⟨v0, v1, v2, v3, vn, vd, vo⟩ = true) (h3 : clampI x = x) : (-1000000000000 ≤ x ∧ x ≤ 1000000000000) ∧ (1 ≤ un ∧ un ≤ 100000000000) ∧ (1 ≤ ud ∧ ud ≤ 100000000000) ∧ (-1000000 ≤ uo ∧ uo ≤ 1000000) ∧ (1 ≤ vd ∧ vd ≤ 100000000000) ∧ (1 ≤ vn ∧ vn ≤ 100000000000) ∧ (-1000000 ≤ vo ∧ vo ≤ 1000000) := by
  have hx := clampI_range x
  rw [h3] at hx
  unfold validB inScaleB at h1 h2
  simp only [Bool.and_eq_true, decide_eq_true_eq] at h1 h2
  exact ⟨hx, h1.1.1.2.1.1, h1.1.1.2.1.2, h1.1.2, h2.1.1.2.1.2, h2.1.1.2.1.1, h2.1.2⟩

theorem int_either (K : Int) (h1 : -170141183460469231731687303715884105728 < K) (h2 : K < 170141183460469231731687303715884105728) : ∃ (F : Int) (b : Bool), (∀ w, Calls Tryz.prog 13 #[wideW K] w fun e w' => e = .returned (.tuple #[.int .i64 F, .bool b]) ∧ Below w.heap.size w w') ∧ (b = true → F = K) ∧ (b = false → ¬ clampI K = K) := by
  by_cases h : -9223372036854775808 ≤ K ∧ K < 9223372036854775808
  · exact ⟨K, true, fun w => aint K w h.1 h.2, fun _ => rfl, fun hb => by cases hb⟩
  · exact ⟨0, false, fun w => wint_no K w (by omega) h2 (by omega), fun hb => by (cases hb), fun _ => by unfold clampI; omega⟩

set_option maxRecDepth 100000 in
set_option maxHeartbeats 4000000 in
theorem convert_main (u0 u1 u2 u3 un ud uo v0 v1 v2 v3 vn vd vo x : Int) (w : World) (h1 : validB ⟨u0, u1, u2, u3, un, ud, uo⟩ = true) (h2 : validB ⟨v0, v1, v2, v3, vn, vd, vo⟩ = true) (h3 : clampI x = x) (h4 : u0 = v0 ∧ u1 = v1 ∧ u2 = v2 ∧ u3 = v3) :
    Calls Tryz.prog 4 #[.int .i64 x, .agg #[.int .i64 u0, .int .i64 u1, .int .i64 u2, .int .i64 u3, .int .i64 un, .int .i64 ud, .int .i64 uo], .agg #[.int .i64 v0, .int .i64 v1, .int .i64 v2, .int .i64 v3, .int .i64 vn, .int .i64 vd, .int .i64 vo]] w fun e w' => e = .returned (.tuple #[.int .i64 (if clampI (quoR (distI x ⟨u0, u1, u2, u3, un, ud, uo⟩ ⟨v0, v1, v2, v3, vn, vd, vo⟩ * vd) ud vn) = quoR (distI x ⟨u0, u1, u2, u3, un, ud, uo⟩ ⟨v0, v1, v2, v3, vn, vd, vo⟩ * vd) ud vn then quoR (distI x ⟨u0, u1, u2, u3, un, ud, uo⟩ ⟨v0, v1, v2, v3, vn, vd, vo⟩ * vd) ud vn else 0), .int .i64 (if clampI (quoR (distI x ⟨u0, u1, u2, u3, un, ud, uo⟩ ⟨v0, v1, v2, v3, vn, vd, vo⟩ * vd) ud vn) = quoR (distI x ⟨u0, u1, u2, u3, un, ud, uo⟩ ⟨v0, v1, v2, v3, vn, vd, vo⟩ * vd) ud vn then 0 else 6)]) ∧ Below w.heap.size w w' := by
  obtain ⟨bx, bn, bd, bo, cd, cn, co⟩ := conv_ranges h1 h2 h3
  have hO1 := fun w => aof x w (by omega) (by omega)
  have hT1 := fun w => atimes x un w (by omega) (by omega)
  have hO2 := fun w => aof (uo - vo) w (by omega) (by omega)
  have hT2 := fun w => atimes (uo - vo) ud w (by omega) (by omega)
  have hP := fun w => aplus (x * un) ((uo - vo) * ud) w
  rw [show x * un + (uo - vo) * ud = distI x ⟨u0, u1, u2, u3, un, ud, uo⟩ ⟨v0, v1, v2, v3, vn, vd, vo⟩ from rfl] at hP
  have hM := fun w => atimes (distI x ⟨u0, u1, u2, u3, un, ud, uo⟩ ⟨v0, v1, v2, v3, vn, vd, vo⟩) vd w (by omega) (by omega)
  have hd := dist_bound (x := x) (u := ⟨u0, u1, u2, u3, un, ud, uo⟩) (v := ⟨v0, v1, v2, v3, vn, vd, vo⟩) (by omega) (by omega) bn.1 bn.2 bd.1 bd.2 bo.1 bo.2 co.1 co.2 cd.1 cd.2
  have hQ := fun w => quotient_any (distI x ⟨u0, u1, u2, u3, un, ud, uo⟩ ⟨v0, v1, v2, v3, vn, vd, vo⟩ * vd) ud vn w hd.1 hd.2 bd.1 bd.2 cn.1 cn.2
  have hqb := quoR_bound (a := ud) (b := vn) hd.1 hd.2 bd.1 cn.1
  obtain ⟨F, b, hI, hFB⟩ := int_either (quoR (distI x ⟨u0, u1, u2, u3, un, ud, uo⟩ ⟨v0, v1, v2, v3, vn, vd, vo⟩ * vd) ud vn) (Int.lt_trans (by decide) hqb.1) (Int.lt_trans hqb.2 (by decide))
  have e1 : IntKind.i64.wrap (uo - vo) = uo - vo := IntWalk.i64_in _ ⟨by omega, by omega⟩
  have e2 : wrap64 (uo - vo) = uo - vo := IntWalk.wrap64_in _ ⟨by omega, by omega⟩
  have HV1 := Lib.hid fun w' => (by have h := valid_any u0 u1 u2 u3 un ud uo w'; rw [h1] at h; exact h : Calls Tryz.prog 7 #[.agg #[.int .i64 u0, .int .i64 u1, .int .i64 u2, .int .i64 u3, .int .i64 un, .int .i64 ud, .int .i64 uo]] w' fun e w'' => e = .returned (.bool true) ∧ Below w'.heap.size w' w'')
  have HV2 := Lib.hid fun w' => (by have h := valid_any v0 v1 v2 v3 vn vd vo w'; rw [h2] at h; exact h : Calls Tryz.prog 7 #[.agg #[.int .i64 v0, .int .i64 v1, .int .i64 v2, .int .i64 v3, .int .i64 vn, .int .i64 vd, .int .i64 vo]] w' fun e w'' => e = .returned (.bool true) ∧ Below w'.heap.size w' w'')
  have HX := Lib.hid fun w => (by have h := clamp_any x w; rw [h3] at h; exact h : Calls Tryz.prog 8 #[.int .i64 x] w fun e w' => e = .returned (.int .i64 x) ∧ w = w')
  have heq := fun w => eq_four u0 u1 u2 u3 v0 v1 v2 v3 w
  have hz : (u0 == v0 && u1 == v1 && u2 == v2 && u3 == v3) = true := by
    simp [h4]
  rw [hz] at heq
  obtain ⟨AP, hAp⟩ : ∃ t : Value, t = wideW x := ⟨_, rfl⟩
  obtain ⟨AQ, hAq⟩ : ∃ t : Value, t = wideW (x * un) := ⟨_, rfl⟩
  obtain ⟨AR, hAr⟩ : ∃ t : Value, t = wideW (uo - vo) := ⟨_, rfl⟩
  obtain ⟨AS, hAs⟩ : ∃ t : Value, t = wideW ((uo - vo) * ud) := ⟨_, rfl⟩
  obtain ⟨t1, ht1⟩ : ∃ t, t = hiW (distI x ⟨u0, u1, u2, u3, un, ud, uo⟩ ⟨v0, v1, v2, v3, vn, vd, vo⟩) := ⟨_, rfl⟩
  obtain ⟨t0, ht0⟩ : ∃ t, t = loW (distI x ⟨u0, u1, u2, u3, un, ud, uo⟩ ⟨v0, v1, v2, v3, vn, vd, vo⟩) := ⟨_, rfl⟩
  obtain ⟨AM, hAm⟩ : ∃ t : Value, t = wideW (distI x ⟨u0, u1, u2, u3, un, ud, uo⟩ ⟨v0, v1, v2, v3, vn, vd, vo⟩ * vd) := ⟨_, rfl⟩
  obtain ⟨AK, hAk⟩ : ∃ t : Value, t = wideW (quoR (distI x ⟨u0, u1, u2, u3, un, ud, uo⟩ ⟨v0, v1, v2, v3, vn, vd, vo⟩ * vd) ud vn) := ⟨_, rfl⟩
  rw [← hAp] at hO1
  rw [← hAp, ← hAq] at hT1
  rw [← hAr] at hO2
  rw [← hAr, ← hAs] at hT2
  rw [← hAq, ← hAs] at hP
  rw [← hAm] at hM
  rw [← hAm, ← hAk] at hQ
  rw [← hAk] at hI
  simp only [wideW] at hP hM
  rw [← ht1, ← ht0] at hP
  rw [← ht1, ← ht0] at hM
  obtain ⟨K, hK⟩ : ∃ t, t = quoR (distI x ⟨u0, u1, u2, u3, un, ud, uo⟩ ⟨v0, v1, v2, v3, vn, vd, vo⟩ * vd) ud vn := ⟨_, rfl⟩
  obtain ⟨dl, hdl⟩ : ∃ t, t = uo - vo := ⟨_, rfl⟩
  rw [← hdl] at hO2 e1 e2
  have e3 : uo - vo = dl := hdl.symm
  have HO1 := Lib.hid hO1
  have HT1 := Lib.hid hT1
  have HO2 := Lib.hid hO2
  have HT2 := Lib.hid hT2
  have HP := Lib.hid hP
  have HM := Lib.hid hM
  have HQ := Lib.hid hQ
  have HI := Lib.hid hI
  rw [← hK] at hFB ⊢
  have HFB := Lib.hid hFB
  obtain ⟨R1, hR1⟩ : ∃ t, t = if clampI K = K then K else 0 := ⟨_, rfl⟩
  obtain ⟨R2, hR2⟩ : ∃ t : Int, t = if clampI K = K then 0 else 6 := ⟨_, rfl⟩
  rw [← hR1, ← hR2]
  have HR := Lib.hid (And.intro hR1 hR2)
  clear hR1 hR2
  clear hO1 hT1 hO2 hT2 hP hM hQ hAp hAq hAr hAs ht1 ht0 hAm hAk hI hK hFB hqb hdl bx bn bd bo cd cn co hd
  clear hz h1 h2 h3 h4
  go_enter Tryz.func4, Tryz.ntmps4
  go_wp2_with fail
  obtain ⟨W, g, h, hW, hg, hh, hgh, hwg, hwh, U1, R1, B1⟩ := two_units w u0 u1 u2 u3 un ud uo v0 v1 v2 v3 vn vd vo
  rw [← hh, ← hg, ← hW]
  have HU1 := Lib.hid U1
  have HR1 := Lib.hid R1
  have HB1 := Lib.hid B1
  clear hW hg hh U1 R1 B1
  refine (HV1.out _).mono ?_
  rintro e w1 ⟨rfl, hb⟩
  have HU2 := Lib.hid (HU1.out.keep hb)
  have HR2 := Lib.hid (HR1.out.keep hb)
  have HB2 := Lib.hid (HB1.out.trans (hb.mono HB1.out.size))
  clear hb
  obtain ⟨a0, a1, a2, a3, a4, a5, a6, az⟩ := HU2.out
  obtain ⟨b0, b1, b2, b3, b4, b5, b6, bz⟩ := HR2.out
  go_wp2_with fail
  refine (HV2.out _).mono ?_
  clear a0 a1 a2 a3 a4 a5 a6 az b0 b1 b2 b3 b4 b5 b6 bz
  rintro e w2 ⟨rfl, hb⟩
  have HU3 := Lib.hid (HU2.out.keep hb)
  have HR3 := Lib.hid (HR2.out.keep hb)
  have HB3 := Lib.hid (HB2.out.trans (hb.mono HB2.out.size))
  clear hb
  obtain ⟨a0, a1, a2, a3, a4, a5, a6, az⟩ := HU3.out
  obtain ⟨b0, b1, b2, b3, b4, b5, b6, bz⟩ := HR3.out
  go_wp2_with (go_at_call 8; refine (HX.out _).mono ?_; rintro e w' ⟨rfl, rfl⟩)
  have HCR : CR w g h u0 u1 u2 u3 un ud uo v0 v1 v2 v3 vn vd vo w2 := ⟨HU3.out, HR3.out, HB3.out⟩
  have HCR2 := Lib.hid HCR
  have hgw := HCR.lt1
  have hhw := HCR.lt2
  have hgN : w2.heap.size ≠ g := Nat.ne_of_gt hgw
  have hhN : w2.heap.size ≠ h := Nat.ne_of_gt hhw
  have hNw : w.heap.size ≤ w2.heap.size := HCR.bel.size
  clear HCR HU1 HU2 HR1 HR2 HB1 HB2
  clear a0 a1 a2 a3 a4 a5 a6 az b0 b1 b2 b3 b4 b5 b6 bz
  go_cut [8] from 30 to 44 (fun p wx => ∃ N : Nat, p = .pointer (some ⟨N, 0, none⟩) ∧ TwoAt wx N (.int .u64 t1) (.int .u64 t0) ∧ CR w g h u0 u1 u2 u3 un ud uo v0 v1 v2 v3 vn vd vo wx)
  case first =>
    obtain ⟨W4, hW4⟩ : ∃ W4, W4 = w2 := ⟨_, rfl⟩
    rw [← hW4] at HCR2 hgw hhw hgN hhN hNw ⊢
    clear hW4
    have HSS := Lib.hid (cs_of HCR2.out)
    have HSS2 := Lib.hid (cs_of (cr_drew HCR2.out))
    unfold CS at HSS HSS2
    go_region_held3 (fun w' => w'.cell? ⟨g, 4, none⟩ = some (.int .i64 un) ∧ w'.cell? ⟨g, 6, none⟩ = some (.int .i64 uo) ∧ w'.cell? ⟨h, 6, none⟩ = some (.int .i64 vo) ∧ w'.cell? ⟨g, 5, none⟩ = some (.int .i64 ud) ∧ CR w g h u0 u1 u2 u3 un ud uo v0 v1 v2 v3 vn vd vo w')
      (first | exact HSS.out | exact HSS2.out | exact cs_keep hb2 ‹_› | exact cs_alloc _ ‹_› | exact cs_store (by assumption) (by assumption) (by assumption) _ _ ‹_› | exact cs_drew ‹_› | go_keep)
      (first | (go_at_call_of 9 (Value.int IntKind.i64 x); refine (HO1.out _).mono ?_; rintro e x1 ⟨rfl, hb2⟩; have HS1 : Hid (CS w g h u0 u1 u2 u3 un ud uo v0 v1 v2 v3 vn vd vo x1) := cs_keep hb2 ‹_›; (first | (with_reducible have nn := fresh_kept hb2) | (with_reducible have nn := fresh_kept_drew hb2) | (with_reducible have nn := two_kept nn hb2) | (with_reducible have nn := two_kept_drew nn hb2) | skip); have hg1 : x1.heap.size ≠ g := Nat.ne_of_gt HS1.out.cr.lt1; have hh1 : x1.heap.size ≠ h := Nat.ne_of_gt HS1.out.cr.lt2; have hw1 : w.heap.size ≤ x1.heap.size := HS1.out.cr.bel.size; (try (have n0 := nn.c0; have n1 := nn.c1; have n2 := nn.fz))) | (go_at_call_of 10 AP; refine (HT1.out _).mono ?_; rintro e x2 ⟨rfl, hb2⟩; have HS2 : Hid (CS w g h u0 u1 u2 u3 un ud uo v0 v1 v2 v3 vn vd vo x2) := cs_keep hb2 ‹_›; (first | (with_reducible have nn := fresh_kept hb2) | (with_reducible have nn := fresh_kept_drew hb2) | (with_reducible have nn := two_kept nn hb2) | (with_reducible have nn := two_kept_drew nn hb2) | skip); have hg2 : x2.heap.size ≠ g := Nat.ne_of_gt HS2.out.cr.lt1; have hh2 : x2.heap.size ≠ h := Nat.ne_of_gt HS2.out.cr.lt2; have hw2 : w.heap.size ≤ x2.heap.size := HS2.out.cr.bel.size; (try (have n0 := nn.c0; have n1 := nn.c1; have n2 := nn.fz))) | (go_at_call_of 9 (Value.int IntKind.i64 dl); refine (HO2.out _).mono ?_; rintro e x3 ⟨rfl, hb2⟩; have HS3 : Hid (CS w g h u0 u1 u2 u3 un ud uo v0 v1 v2 v3 vn vd vo x3) := cs_keep hb2 ‹_›; (first | (with_reducible have nn := fresh_kept hb2) | (with_reducible have nn := fresh_kept_drew hb2) | (with_reducible have nn := two_kept nn hb2) | (with_reducible have nn := two_kept_drew nn hb2) | skip); have hg3 : x3.heap.size ≠ g := Nat.ne_of_gt HS3.out.cr.lt1; have hh3 : x3.heap.size ≠ h := Nat.ne_of_gt HS3.out.cr.lt2; have hw3 : w.heap.size ≤ x3.heap.size := HS3.out.cr.bel.size; (try (have n0 := nn.c0; have n1 := nn.c1; have n2 := nn.fz))) | (go_at_call_of 10 AR; refine (HT2.out _).mono ?_; rintro e x4 ⟨rfl, hb2⟩; have HS4 : Hid (CS w g h u0 u1 u2 u3 un ud uo v0 v1 v2 v3 vn vd vo x4) := cs_keep hb2 ‹_›; (first | (with_reducible have nn := fresh_kept hb2) | (with_reducible have nn := fresh_kept_drew hb2) | (with_reducible have nn := two_kept nn hb2) | (with_reducible have nn := two_kept_drew nn hb2) | skip); have hg4 : x4.heap.size ≠ g := Nat.ne_of_gt HS4.out.cr.lt1; have hh4 : x4.heap.size ≠ h := Nat.ne_of_gt HS4.out.cr.lt2; have hw4 : w.heap.size ≤ x4.heap.size := HS4.out.cr.bel.size; (try (have n0 := nn.c0; have n1 := nn.c1; have n2 := nn.fz))) | (go_at_call_of 11 AQ; refine (HP.out _).mono ?_; rintro e x5 ⟨rfl, hb2⟩; have HS5 : Hid (CS w g h u0 u1 u2 u3 un ud uo v0 v1 v2 v3 vn vd vo x5) := cs_keep hb2 ‹_›; (first | (with_reducible have nn := fresh_kept hb2) | (with_reducible have nn := fresh_kept_drew hb2) | (with_reducible have nn := two_kept nn hb2) | (with_reducible have nn := two_kept_drew nn hb2) | skip); have hg5 : x5.heap.size ≠ g := Nat.ne_of_gt HS5.out.cr.lt1; have hh5 : x5.heap.size ≠ h := Nat.ne_of_gt HS5.out.cr.lt2; have hw5 : w.heap.size ≤ x5.heap.size := HS5.out.cr.bel.size; (try (have n0 := nn.c0; have n1 := nn.c1; have n2 := nn.fz))))
    all_goals
      rename_i hHeld
      have hC := hHeld.2.2.2.2
      clear hHeld
      go_wp2_with fail
      go_meet
      first
        | exact ⟨_, rfl, nn.put _ _, hC⟩
        | exact ⟨_, rfl, two_fresh x5 _ _ _, hC⟩
  case rest =>
    obtain ⟨N, rfl, hT, hC⟩ := hcut
    have HD := Lib.hid (ds_of hT hC)
    have HD2 := Lib.hid (ds_drew (ds_of hT hC))
    unfold DS at HD HD2
    have n0 := hT.c0
    have n1 := hT.c1
    clear hT hC HCR2 hgw hhw hgN hhN hNw
    go_wp2_with fail
    go_region_held3 (fun w' => w'.cell? ⟨N, 0, none⟩ = some (.int .u64 t1) ∧ w'.cell? ⟨N, 1, none⟩ = some (.int .u64 t0) ∧ w'.cell? ⟨h, 5, none⟩ = some (.int .i64 vd) ∧ w'.cell? ⟨g, 5, none⟩ = some (.int .i64 ud) ∧ w'.cell? ⟨h, 4, none⟩ = some (.int .i64 vn) ∧ TwoAt w' N (.int .u64 t1) (.int .u64 t0) ∧ CR w g h u0 u1 u2 u3 un ud uo v0 v1 v2 v3 vn vd vo w')
      (first | exact HD.out | exact HD2.out | exact ds_keep hb2 ‹_› | exact ds_drew ‹_› | go_keep)
      (first | (go_at_call 10; refine (HM.out _).mono ?_; rintro e x1 ⟨rfl, hb2⟩; have HS1 : Hid (DS w g h N (.int .u64 t1) (.int .u64 t0) u0 u1 u2 u3 un ud uo v0 v1 v2 v3 vn vd vo x1) := ds_keep hb2 ‹_›) | (go_at_call 12; refine (HQ.out _).mono ?_; rintro e x2 ⟨rfl, hb2⟩; have HS2 : Hid (DS w g h N (.int .u64 t1) (.int .u64 t0) u0 u1 u2 u3 un ud uo v0 v1 v2 v3 vn vd vo x2) := ds_keep hb2 ‹_›) | (go_at_call 13; refine (HI.out _).mono ?_; rintro e x3 ⟨rfl, hb2⟩; have HS3 : Hid (DS w g h N (.int .u64 t1) (.int .u64 t0) u0 u1 u2 u3 un ud uo v0 v1 v2 v3 vn vd vo x3) := ds_keep hb2 ‹_›))
    rename_i hHeld
    have HBB := Lib.hid hHeld.2.2.2.2.2.2.bel
    clear hHeld n0 n1
    cases b
    · have HFF := Lib.hid (HFB.out.2 rfl)
      go_wp2_with fail
      go_ret2
      exact ⟨by rw [HR.out.1, HR.out.2, if_neg HFF.out, if_neg HFF.out]; rfl, HBB.out⟩
    · obtain rfl : F = K := HFB.out.1 rfl
      by_cases hc : clampI F = F
      · have HC1 := Lib.hid fun w => (by have h := clamp_any F w; rw [hc] at h; exact h : Calls Tryz.prog 8 #[.int .i64 F] w fun e w' => e = .returned (.int .i64 F) ∧ w = w')
        have HRR := Lib.hid (show R1 = F ∧ R2 = 0 by rw [HR.out.1, HR.out.2, if_pos hc, if_pos hc]; exact ⟨rfl, rfl⟩)
        clear hc
        go_wp2_with (go_at_call 8; refine (HC1.out _).mono ?_; rintro e w' ⟨rfl, rfl⟩)
        go_ret2
        exact ⟨by rw [HRR.out.1, HRR.out.2]; rfl, HBB.out⟩
      · have HRR := Lib.hid (show R1 = 0 ∧ R2 = 6 by rw [HR.out.1, HR.out.2, if_neg hc, if_neg hc]; exact ⟨rfl, rfl⟩)
        obtain ⟨CF, hCF⟩ : ∃ t, t = clampI F := ⟨_, rfl⟩
        have HC1 := Lib.hid fun w => (by have h := clamp_any F w; rw [← hCF] at h; exact h : Calls Tryz.prog 8 #[.int .i64 F] w fun e w' => e = .returned (.int .i64 CF) ∧ w = w')
        rw [← hCF] at hc
        have t3 : (CF != F) = true := by rw [bne_iff_ne]; exact hc
        clear hCF hc
        go_wp2_with (go_at_call 8; refine (HC1.out _).mono ?_; rintro e w' ⟨rfl, rfl⟩)
        go_ret2
        exact ⟨by rw [HRR.out.1, HRR.out.2]; rfl, HBB.out⟩

/-- what a conversion answers -/
def convN (x : Int) (u v : UnitD) : Int := quoR (distI x u v * v.d) u.d v.n
def convR (x : Int) (u v : UnitD) : Int × Int :=
  if validB u = false ∨ validB v = false ∨ clampI x ≠ x then (0, 1)
  else if ¬ (u.e0 = v.e0 ∧ u.e1 = v.e1 ∧ u.e2 = v.e2 ∧ u.e3 = v.e3) then (0, 11)
  else if clampI (convN x u v) = convN x u v then (convN x u v, 0) else (0, 6)
theorem convert_any (x : Int) (u v : UnitD) (w : World) :
    Calls Tryz.prog 4 #[.int .i64 x, unitV u, unitV v] w fun e w' => e = .returned (.tuple #[.int .i64 (convR x u v).1, .int .i64 (convR x u v).2]) ∧ Below w.heap.size w w' := by
  obtain ⟨u0, u1, u2, u3, un, ud, uo⟩ := u
  obtain ⟨v0, v1, v2, v3, vn, vd, vo⟩ := v
  unfold convR
  by_cases h1 : validB ⟨u0, u1, u2, u3, un, ud, uo⟩ = true
  · by_cases h2 : validB ⟨v0, v1, v2, v3, vn, vd, vo⟩ = true
    · by_cases h3 : clampI x = x
      · rw [if_neg (by simp [h1, h2, h3])]
        by_cases h4 : u0 = v0 ∧ u1 = v1 ∧ u2 = v2 ∧ u3 = v3
        · rw [if_neg (fun h => h h4)]
          have := convert_main u0 u1 u2 u3 un ud uo v0 v1 v2 v3 vn vd vo x w h1 h2 h3 h4
          by_cases h5 : clampI (convN x ⟨u0, u1, u2, u3, un, ud, uo⟩ ⟨v0, v1, v2, v3, vn, vd, vo⟩) = convN x ⟨u0, u1, u2, u3, un, ud, uo⟩ ⟨v0, v1, v2, v3, vn, vd, vo⟩
          · rw [if_pos h5]
            unfold convN at h5
            rwa [if_pos h5, if_pos h5] at this
          · rw [if_neg h5]
            unfold convN at h5
            rwa [if_neg h5, if_neg h5] at this
        · rw [if_pos h4]
          exact convert_bad4 u0 u1 u2 u3 un ud uo v0 v1 v2 v3 vn vd vo x w h1 h2 h3 h4
      · rw [if_pos (.inr (.inr h3))]
        exact convert_bad3 u0 u1 u2 u3 un ud uo v0 v1 v2 v3 vn vd vo x w h1 h2 h3
    · rw [if_pos (.inr (.inl (by simpa using h2)))]
      exact convert_bad2 u0 u1 u2 u3 un ud uo v0 v1 v2 v3 vn vd vo x w h1 (by simpa using h2)
  · rw [if_pos (.inl (by simpa using h1))]
    exact convert_bad1 u0 u1 u2 u3 un ud uo v0 v1 v2 v3 vn vd vo x w (by simpa using h1)
end Go.Proofs.YtlahoohgbfjciaaGreatDoor
