/- The contract of units.product. -/
import Derived.Test.YtlahoohgbfjciaaGreatDoorUu
namespace Go.Proofs.YtlahoohgbfjciaaGreatDoor
open Go.RowKit Go.Shelf

theorem UnitAt.put_0 {w : World} {b : Nat} {e0 e1 e2 e3 e4 e5 e6 : Int} (t : UnitAt w b e0 e1 e2 e3 e4 e5 e6) (v : Int) : UnitAt (w.setCell ⟨b, 0, none⟩ (.int .i64 v)) b v e1 e2 e3 e4 e5 e6 :=
  ⟨World.cell?_setCell_same _ _ _ t.c0, (World.cell?_setCell_other _ _ _ _ (by simp)).trans t.c1, (World.cell?_setCell_other _ _ _ _ (by simp)).trans t.c2, (World.cell?_setCell_other _ _ _ _ (by simp)).trans t.c3, (World.cell?_setCell_other _ _ _ _ (by simp)).trans t.c4, (World.cell?_setCell_other _ _ _ _ (by simp)).trans t.c5, (World.cell?_setCell_other _ _ _ _ (by simp)).trans t.c6, fun o => by rw [World.frozen?_setCell]; exact t.fz o⟩
theorem UnitAt.put_1 {w : World} {b : Nat} {e0 e1 e2 e3 e4 e5 e6 : Int} (t : UnitAt w b e0 e1 e2 e3 e4 e5 e6) (v : Int) : UnitAt (w.setCell ⟨b, 1, none⟩ (.int .i64 v)) b e0 v e2 e3 e4 e5 e6 :=
  ⟨(World.cell?_setCell_other _ _ _ _ (by simp)).trans t.c0, World.cell?_setCell_same _ _ _ t.c1, (World.cell?_setCell_other _ _ _ _ (by simp)).trans t.c2, (World.cell?_setCell_other _ _ _ _ (by simp)).trans t.c3, (World.cell?_setCell_other _ _ _ _ (by simp)).trans t.c4, (World.cell?_setCell_other _ _ _ _ (by simp)).trans t.c5, (World.cell?_setCell_other _ _ _ _ (by simp)).trans t.c6, fun o => by rw [World.frozen?_setCell]; exact t.fz o⟩
theorem UnitAt.put_2 {w : World} {b : Nat} {e0 e1 e2 e3 e4 e5 e6 : Int} (t : UnitAt w b e0 e1 e2 e3 e4 e5 e6) (v : Int) : UnitAt (w.setCell ⟨b, 2, none⟩ (.int .i64 v)) b e0 e1 v e3 e4 e5 e6 :=
  ⟨(World.cell?_setCell_other _ _ _ _ (by simp)).trans t.c0, (World.cell?_setCell_other _ _ _ _ (by simp)).trans t.c1, World.cell?_setCell_same _ _ _ t.c2, (World.cell?_setCell_other _ _ _ _ (by simp)).trans t.c3, (World.cell?_setCell_other _ _ _ _ (by simp)).trans t.c4, (World.cell?_setCell_other _ _ _ _ (by simp)).trans t.c5, (World.cell?_setCell_other _ _ _ _ (by simp)).trans t.c6, fun o => by rw [World.frozen?_setCell]; exact t.fz o⟩
theorem UnitAt.put_3 {w : World} {b : Nat} {e0 e1 e2 e3 e4 e5 e6 : Int} (t : UnitAt w b e0 e1 e2 e3 e4 e5 e6) (v : Int) : UnitAt (w.setCell ⟨b, 3, none⟩ (.int .i64 v)) b e0 e1 e2 v e4 e5 e6 :=
  ⟨(World.cell?_setCell_other _ _ _ _ (by simp)).trans t.c0, (World.cell?_setCell_other _ _ _ _ (by simp)).trans t.c1, (World.cell?_setCell_other _ _ _ _ (by simp)).trans t.c2, World.cell?_setCell_same _ _ _ t.c3, (World.cell?_setCell_other _ _ _ _ (by simp)).trans t.c4, (World.cell?_setCell_other _ _ _ _ (by simp)).trans t.c5, (World.cell?_setCell_other _ _ _ _ (by simp)).trans t.c6, fun o => by rw [World.frozen?_setCell]; exact t.fz o⟩
theorem UnitAt.put_4 {w : World} {b : Nat} {e0 e1 e2 e3 e4 e5 e6 : Int} (t : UnitAt w b e0 e1 e2 e3 e4 e5 e6) (v : Int) : UnitAt (w.setCell ⟨b, 4, none⟩ (.int .i64 v)) b e0 e1 e2 e3 v e5 e6 :=
  ⟨(World.cell?_setCell_other _ _ _ _ (by simp)).trans t.c0, (World.cell?_setCell_other _ _ _ _ (by simp)).trans t.c1, (World.cell?_setCell_other _ _ _ _ (by simp)).trans t.c2, (World.cell?_setCell_other _ _ _ _ (by simp)).trans t.c3, World.cell?_setCell_same _ _ _ t.c4, (World.cell?_setCell_other _ _ _ _ (by simp)).trans t.c5, (World.cell?_setCell_other _ _ _ _ (by simp)).trans t.c6, fun o => by rw [World.frozen?_setCell]; exact t.fz o⟩
theorem UnitAt.put_5 {w : World} {b : Nat} {e0 e1 e2 e3 e4 e5 e6 : Int} (t : UnitAt w b e0 e1 e2 e3 e4 e5 e6) (v : Int) : UnitAt (w.setCell ⟨b, 5, none⟩ (.int .i64 v)) b e0 e1 e2 e3 e4 v e6 :=
  ⟨(World.cell?_setCell_other _ _ _ _ (by simp)).trans t.c0, (World.cell?_setCell_other _ _ _ _ (by simp)).trans t.c1, (World.cell?_setCell_other _ _ _ _ (by simp)).trans t.c2, (World.cell?_setCell_other _ _ _ _ (by simp)).trans t.c3, (World.cell?_setCell_other _ _ _ _ (by simp)).trans t.c4, World.cell?_setCell_same _ _ _ t.c5, (World.cell?_setCell_other _ _ _ _ (by simp)).trans t.c6, fun o => by rw [World.frozen?_setCell]; exact t.fz o⟩
theorem UnitAt.put_6 {w : World} {b : Nat} {e0 e1 e2 e3 e4 e5 e6 : Int} (t : UnitAt w b e0 e1 e2 e3 e4 e5 e6) (v : Int) : UnitAt (w.setCell ⟨b, 6, none⟩ (.int .i64 v)) b e0 e1 e2 e3 e4 e5 v :=
  ⟨(World.cell?_setCell_other _ _ _ _ (by simp)).trans t.c0, (World.cell?_setCell_other _ _ _ _ (by simp)).trans t.c1, (World.cell?_setCell_other _ _ _ _ (by simp)).trans t.c2, (World.cell?_setCell_other _ _ _ _ (by simp)).trans t.c3, (World.cell?_setCell_other _ _ _ _ (by simp)).trans t.c4, (World.cell?_setCell_other _ _ _ _ (by simp)).trans t.c5, World.cell?_setCell_same _ _ _ t.c6, fun o => by rw [World.frozen?_setCell]; exact t.fz o⟩
theorem UnitAt.other1 {w : World} {b N k : Nat} {x : Value} {e0 e1 e2 e3 e4 e5 e6 : Int} (t : UnitAt w b e0 e1 e2 e3 e4 e5 e6) (hne : N ≠ b) : UnitAt (w.setCell ⟨N, k, none⟩ x) b e0 e1 e2 e3 e4 e5 e6 := by
  have h : ∀ j, (w.setCell ⟨N, k, none⟩ x).cell? ⟨b, j, none⟩ = w.cell? ⟨b, j, none⟩ := fun j => World.cell?_setCell_other _ _ _ _ (fun e => hne (congrArg Addr.block e))
  exact ⟨(h 0).trans t.c0, (h 1).trans t.c1, (h 2).trans t.c2, (h 3).trans t.c3, (h 4).trans t.c4, (h 5).trans t.c5, (h 6).trans t.c6, fun o => by rw [World.frozen?_setCell]; exact t.fz o⟩
theorem UnitAt.drew {w : World} {b : Nat} {e0 e1 e2 e3 e4 e5 e6 : Int} (t : UnitAt w b e0 e1 e2 e3 e4 e5 e6) : UnitAt w.drew b e0 e1 e2 e3 e4 e5 e6 := ⟨t.c0, t.c1, t.c2, t.c3, t.c4, t.c5, t.c6, t.fz⟩
theorem unit_kept {w w2 : World} {b : Nat} {e0 e1 e2 e3 e4 e5 e6 : Int} (t : UnitAt w b e0 e1 e2 e3 e4 e5 e6) (hb : Below w.heap.size w w2) : UnitAt w2 b e0 e1 e2 e3 e4 e5 e6 := t.keep hb
theorem unit_kept_drew {w w2 : World} {b : Nat} {e0 e1 e2 e3 e4 e5 e6 : Int} (t : UnitAt w b e0 e1 e2 e3 e4 e5 e6) (hb : Below w.drew.heap.size w.drew w2) : UnitAt w2 b e0 e1 e2 e3 e4 e5 e6 := t.drew.keep hb

/-- two units and a result that is nothing yet, in memory of the call's own -/
structure PR (w : World) (g h R : Nat) (u0 u1 u2 u3 un ud uo v0 v1 v2 v3 vn vd vo : Int) (w' : World) : Prop where
  c : CR w g h u0 u1 u2 u3 un ud uo v0 v1 v2 v3 vn vd vo w'
  r : UnitAt w' R 0 0 0 0 0 0 0
section
variable {w w' w2 : World} {g h R S : Nat} {u0 u1 u2 u3 un ud uo v0 v1 v2 v3 vn vd vo : Int}
theorem PR.keep (c : PR w g h R u0 u1 u2 u3 un ud uo v0 v1 v2 v3 vn vd vo w') (hb : Below w'.heap.size w' w2) : PR w g h R u0 u1 u2 u3 un ud uo v0 v1 v2 v3 vn vd vo w2 := ⟨c.c.keep hb, c.r.keep hb⟩
theorem PR.drew (c : PR w g h R u0 u1 u2 u3 un ud uo v0 v1 v2 v3 vn vd vo w') : PR w g h R u0 u1 u2 u3 un ud uo v0 v1 v2 v3 vn vd vo w'.drew := ⟨cr_drew c.c, c.r.drew⟩
def PS (w : World) (g h R S : Nat) (u0 u1 u2 u3 un ud uo v0 v1 v2 v3 vn vd vo e0 e1 e2 e3 e4 e5 e6 : Int) (w' : World) : Prop := w'.cell? ⟨g, 4, none⟩ = some (.int .i64 un) ∧ w'.cell? ⟨h, 5, none⟩ = some (.int .i64 vd) ∧ w'.cell? ⟨h, 4, none⟩ = some (.int .i64 vn) ∧ w'.cell? ⟨g, 5, none⟩ = some (.int .i64 ud) ∧ PR w g h R u0 u1 u2 u3 un ud uo v0 v1 v2 v3 vn vd vo w' ∧ UnitAt w' S e0 e1 e2 e3 e4 e5 e6
theorem ps_of {e0 e1 e2 e3 e4 e5 e6 : Int} (c : PR w g h R u0 u1 u2 u3 un ud uo v0 v1 v2 v3 vn vd vo w') (t : UnitAt w' S e0 e1 e2 e3 e4 e5 e6) : PS w g h R S u0 u1 u2 u3 un ud uo v0 v1 v2 v3 vn vd vo e0 e1 e2 e3 e4 e5 e6 w' := ⟨c.c.u.c4, c.c.v.c5, c.c.v.c4, c.c.u.c5, c, t⟩
theorem ps_keep {e0 e1 e2 e3 e4 e5 e6 : Int} (hb : Below w'.heap.size w' w2) (c : PS w g h R S u0 u1 u2 u3 un ud uo v0 v1 v2 v3 vn vd vo e0 e1 e2 e3 e4 e5 e6 w') : PS w g h R S u0 u1 u2 u3 un ud uo v0 v1 v2 v3 vn vd vo e0 e1 e2 e3 e4 e5 e6 w2 := ps_of (c.2.2.2.2.1.keep hb) (c.2.2.2.2.2.keep hb)
theorem ps_drew {e0 e1 e2 e3 e4 e5 e6 : Int} (c : PS w g h R S u0 u1 u2 u3 un ud uo v0 v1 v2 v3 vn vd vo e0 e1 e2 e3 e4 e5 e6 w') : PS w g h R S u0 u1 u2 u3 un ud uo v0 v1 v2 v3 vn vd vo e0 e1 e2 e3 e4 e5 e6 w'.drew := ps_of c.2.2.2.2.1.drew c.2.2.2.2.2.drew
def P4 (w : World) (g h R : Nat) (u0 u1 u2 u3 un ud uo v0 v1 v2 v3 vn vd vo : Int) (w' : World) : Prop := w'.cell? ⟨g, 4, none⟩ = some (.int .i64 un) ∧ w'.cell? ⟨h, 4, none⟩ = some (.int .i64 vn) ∧ PR w g h R u0 u1 u2 u3 un ud uo v0 v1 v2 v3 vn vd vo w'
def P5 (w : World) (g h R : Nat) (u0 u1 u2 u3 un ud uo v0 v1 v2 v3 vn vd vo : Int) (w' : World) : Prop := w'.cell? ⟨g, 5, none⟩ = some (.int .i64 ud) ∧ w'.cell? ⟨h, 5, none⟩ = some (.int .i64 vd) ∧ PR w g h R u0 u1 u2 u3 un ud uo v0 v1 v2 v3 vn vd vo w'
theorem p4_of (c : PR w g h R u0 u1 u2 u3 un ud uo v0 v1 v2 v3 vn vd vo w') : P4 w g h R u0 u1 u2 u3 un ud uo v0 v1 v2 v3 vn vd vo w' := ⟨c.c.u.c4, c.c.v.c4, c⟩
theorem p5_of (c : PR w g h R u0 u1 u2 u3 un ud uo v0 v1 v2 v3 vn vd vo w') : P5 w g h R u0 u1 u2 u3 un ud uo v0 v1 v2 v3 vn vd vo w' := ⟨c.c.u.c5, c.c.v.c5, c⟩
theorem p4_drew (c : P4 w g h R u0 u1 u2 u3 un ud uo v0 v1 v2 v3 vn vd vo w') : P4 w g h R u0 u1 u2 u3 un ud uo v0 v1 v2 v3 vn vd vo w'.drew := p4_of c.2.2.drew
theorem p5_drew (c : P5 w g h R u0 u1 u2 u3 un ud uo v0 v1 v2 v3 vn vd vo w') : P5 w g h R u0 u1 u2 u3 un ud uo v0 v1 v2 v3 vn vd vo w'.drew := p5_of c.2.2.drew
theorem PR.store (c : PR w g h R u0 u1 u2 u3 un ud uo v0 v1 v2 v3 vn vd vo w') (h1 : S ≠ g) (h2 : S ≠ h) (h3 : S ≠ R) (hN : w.heap.size ≤ S) (k : Nat) (x : Value) : PR w g h R u0 u1 u2 u3 un ud uo v0 v1 v2 v3 vn vd vo (w'.setCell ⟨S, k, none⟩ x) :=
  ⟨⟨c.c.u.other1 h1, c.c.v.other1 h2, c.c.bel.setCell hN _⟩, c.r.other1 h3⟩
theorem p4_store (c : P4 w g h R u0 u1 u2 u3 un ud uo v0 v1 v2 v3 vn vd vo w') (h1 : S ≠ g) (h2 : S ≠ h) (h3 : S ≠ R) (hN : w.heap.size ≤ S) (k : Nat) (x : Value) : P4 w g h R u0 u1 u2 u3 un ud uo v0 v1 v2 v3 vn vd vo (w'.setCell ⟨S, k, none⟩ x) := p4_of (c.2.2.store h1 h2 h3 hN k x)
theorem p5_store (c : P5 w g h R u0 u1 u2 u3 un ud uo v0 v1 v2 v3 vn vd vo w') (h1 : S ≠ g) (h2 : S ≠ h) (h3 : S ≠ R) (hN : w.heap.size ≤ S) (k : Nat) (x : Value) : P5 w g h R u0 u1 u2 u3 un ud uo v0 v1 v2 v3 vn vd vo (w'.setCell ⟨S, k, none⟩ x) := p5_of (c.2.2.store h1 h2 h3 hN k x)
end
def gI (a b : Int) : Int := ((Nat.gcd a.toNat b.toNat : Nat) : Int)
theorem gI_facts {a b : Int} (ha : 1 ≤ a) (hb : 1 ≤ b) : 1 ≤ gI a b ∧ (1 ≤ a / gI a b ∧ a / gI a b ≤ a) ∧ (1 ≤ b / gI a b ∧ b / gI a b ≤ b) := by
  have h0 : 0 < Nat.gcd a.toNat b.toNat := Nat.gcd_pos_of_pos_left _ (by omega)
  have h1 : gI a b ∣ a := by
    have := Int.natCast_dvd_natCast.mpr (Nat.gcd_dvd_left a.toNat b.toNat)
    rwa [Int.toNat_of_nonneg (by omega)] at this
  have h2 : gI a b ∣ b := by
    have := Int.natCast_dvd_natCast.mpr (Nat.gcd_dvd_right a.toNat b.toNat)
    rwa [Int.toNat_of_nonneg (show 0 ≤ b by omega)] at this
  have hg : 1 ≤ gI a b := by unfold gI; omega
  have p1 := Int.ediv_le_self (gI a b) (show 0 ≤ a by omega)
  have p2 := Int.ediv_le_self (gI a b) (show 0 ≤ b by omega)
  have q1 := Int.ediv_mul_cancel h1
  have q2 := Int.ediv_mul_cancel h2
  have r1 := Int.ediv_nonneg (show 0 ≤ a by omega) (show 0 ≤ gI a b by omega)
  have r2 := Int.ediv_nonneg (show 0 ≤ b by omega) (show 0 ≤ gI a b by omega)
  refine ⟨hg, ⟨?_, p1⟩, ⟨?_, p2⟩⟩
  · by_cases h : a / gI a b = 0
    · rw [h, Int.zero_mul] at q1; omega
    · omega
  · by_cases h : b / gI a b = 0
    · rw [h, Int.zero_mul] at q2; omega
    · omega
/-- the product of two units -/
def prodU (u v : UnitD) : UnitD := ⟨u.e0 + v.e0, u.e1 + v.e1, u.e2 + v.e2, u.e3 + v.e3, limI (u.n / gI u.n v.d) (v.n / gI v.n u.d), limI (u.d / gI v.n u.d) (v.d / gI u.n v.d), 0⟩
theorem four_units (w : World) (u0 u1 u2 u3 un ud uo v0 v1 v2 v3 vn vd vo : Int) : ∃ (W : World) (g h R S : Nat), W = ((((w.alloc (Obj.cells #[.int .i64 u0, .int .i64 u1, .int .i64 u2, .int .i64 u3, .int .i64 un, .int .i64 ud, .int .i64 uo] 28)).alloc (Obj.cells #[.int .i64 v0, .int .i64 v1, .int .i64 v2, .int .i64 v3, .int .i64 vn, .int .i64 vd, .int .i64 vo] 28)).alloc (Obj.cells #[.int .i64 0, .int .i64 0, .int .i64 0, .int .i64 0, .int .i64 0, .int .i64 0, .int .i64 0] 28)).alloc (Obj.cells #[.int .i64 0, .int .i64 0, .int .i64 0, .int .i64 0, .int .i64 0, .int .i64 0, .int .i64 0] 28)) ∧ g = w.heap.size ∧ h = w.heap.size + 1 ∧ R = w.heap.size + 2 ∧ S = w.heap.size + 3 ∧ S ≠ g ∧ S ≠ h ∧ S ≠ R ∧ w.heap.size ≤ R ∧ w.heap.size ≤ S ∧ PR w g h R u0 u1 u2 u3 un ud uo v0 v1 v2 v3 vn vd vo W ∧ UnitAt W S 0 0 0 0 0 0 0 := by
  obtain ⟨W, g, h, hW, hg, hh, hgh, hwg, hwh, U1, R1, B1⟩ := two_units w u0 u1 u2 u3 un ud uo v0 v1 v2 v3 vn vd vo
  have sz : W.heap.size = w.heap.size + 2 := by rw [hW, World.size_alloc, World.size_alloc]
  have a := unit_fresh W 0 0 0 0 0 0 0
  have b := unit_fresh (W.alloc (Obj.cells #[.int .i64 0, .int .i64 0, .int .i64 0, .int .i64 0, .int .i64 0, .int .i64 0, .int .i64 0] 28)) 0 0 0 0 0 0 0
  rw [World.size_alloc, sz] at b
  rw [sz] at a
  have b1 := (Below.refl W.heap.size W).alloc (Nat.le_refl _) (Obj.cells #[.int .i64 0, .int .i64 0, .int .i64 0, .int .i64 0, .int .i64 0, .int .i64 0, .int .i64 0] 28)
  have b2 := (Below.refl _ (W.alloc (Obj.cells #[.int .i64 0, .int .i64 0, .int .i64 0, .int .i64 0, .int .i64 0, .int .i64 0, .int .i64 0] 28))).alloc (Nat.le_refl _) (Obj.cells #[.int .i64 0, .int .i64 0, .int .i64 0, .int .i64 0, .int .i64 0, .int .i64 0, .int .i64 0] 28)
  refine ⟨_, g, h, w.heap.size + 2, w.heap.size + 3, by rw [← hW], hg, hh, rfl, rfl, by omega, by omega, by omega, by omega, by omega, ⟨⟨(U1.keep b1).keep b2, (R1.keep b1).keep b2, (B1.alloc B1.size _).alloc (B1.alloc B1.size _).size _⟩, a.keep b2⟩, b⟩

theorem scale_ranges {u0 u1 u2 u3 un ud uo : Int} (h : validB ⟨u0, u1, u2, u3, un, ud, uo⟩ = true) : (1 ≤ un ∧ un ≤ 100000000000) ∧ (1 ≤ ud ∧ ud ≤ 100000000000) := by
  unfold validB inScaleB at h
  simp only [Bool.and_eq_true, decide_eq_true_eq] at h
  exact ⟨⟨h.1.1.2.1.1.1, h.1.1.2.1.1.2⟩, ⟨h.1.1.2.1.2.1, h.1.1.2.1.2.2⟩⟩
theorem exp_ranges {u0 u1 u2 u3 un ud uo : Int} (h : validB ⟨u0, u1, u2, u3, un, ud, uo⟩ = true) : -9 ≤ u0 ∧ u0 ≤ 9 ∧ -9 ≤ u1 ∧ u1 ≤ 9 ∧ -9 ≤ u2 ∧ u2 ≤ 9 ∧ -9 ≤ u3 ∧ u3 ≤ 9 := by
  unfold validB expB at h
  simp only [Bool.and_eq_true, decide_eq_true_eq] at h
  exact ⟨h.1.1.1.1.1.1.1, h.1.1.1.1.1.1.2, h.1.1.1.1.1.2.1, h.1.1.1.1.1.2.2, h.1.1.1.1.2.1, h.1.1.1.1.2.2, h.1.1.1.2.1, h.1.1.1.2.2⟩

set_option maxRecDepth 100000 in
set_option maxHeartbeats 4000000 in
theorem product_main (u0 u1 u2 u3 un ud uo v0 v1 v2 v3 vn vd vo : Int) (w : World) (h1 : validB ⟨u0, u1, u2, u3, un, ud, uo⟩ = true) (h2 : validB ⟨v0, v1, v2, v3, vn, vd, vo⟩ = true) :
    Calls Tryz.prog 61 #[.agg #[.int .i64 u0, .int .i64 u1, .int .i64 u2, .int .i64 u3, .int .i64 un, .int .i64 ud, .int .i64 uo], .agg #[.int .i64 v0, .int .i64 v1, .int .i64 v2, .int .i64 v3, .int .i64 vn, .int .i64 vd, .int .i64 vo]] w fun e w' => e = .returned (if validB (prodU ⟨u0, u1, u2, u3, un, ud, uo⟩ ⟨v0, v1, v2, v3, vn, vd, vo⟩) = true then .tuple #[unitV (prodU ⟨u0, u1, u2, u3, un, ud, uo⟩ ⟨v0, v1, v2, v3, vn, vd, vo⟩), .int .i64 0] else .tuple #[.agg #[.int .i64 0, .int .i64 0, .int .i64 0, .int .i64 0, .int .i64 0, .int .i64 0, .int .i64 0], .int .i64 6]) ∧ Below w.heap.size w w' := by
  obtain ⟨bn, bd⟩ := scale_ranges h1
  obtain ⟨cn, cd⟩ := scale_ranges h2
  obtain ⟨g1, ⟨g2, g3⟩, g4, g5⟩ := gI_facts (a := un) (b := vd) bn.1 cd.1
  obtain ⟨g6, ⟨g7, g8⟩, g9, gA⟩ := gI_facts (a := vn) (b := ud) cn.1 bd.1
  have hG1 : ∀ w, Calls Tryz.prog 24 #[.int .i64 un, .int .i64 vd] w fun e w' => e = .returned (.int .i64 (gI un vd)) ∧ Below w.heap.size w w' := fun w => divisor_int un vd w ((inScale_iff _).2 bn) ((inScale_iff _).2 cd)
  have hG2 : ∀ w, Calls Tryz.prog 24 #[.int .i64 vn, .int .i64 ud] w fun e w' => e = .returned (.int .i64 (gI vn ud)) ∧ Below w.heap.size w w' := fun w => divisor_int vn ud w ((inScale_iff _).2 cn) ((inScale_iff _).2 bd)
  have hL1 := fun w => limited_any (un / gI un vd) (vn / gI vn ud) w g2 g7 (by omega) (by omega)
  have hL2 := fun w => limited_any (ud / gI vn ud) (vd / gI un vd) w g9 g4 (by omega) (by omega)
  have q1 := Int.tdiv_eq_ediv_of_nonneg (a := un) (b := gI un vd) (by omega)
  have q2 := Int.tdiv_eq_ediv_of_nonneg (a := vn) (b := gI vn ud) (by omega)
  have q3 := Int.tdiv_eq_ediv_of_nonneg (a := ud) (b := gI vn ud) (by omega)
  have q4 := Int.tdiv_eq_ediv_of_nonneg (a := vd) (b := gI un vd) (by omega)
  obtain ⟨A1, hA1⟩ : ∃ t, t = un / gI un vd := ⟨_, rfl⟩
  obtain ⟨B1, hB1⟩ : ∃ t, t = vn / gI vn ud := ⟨_, rfl⟩
  obtain ⟨A2, hA2⟩ : ∃ t, t = ud / gI vn ud := ⟨_, rfl⟩
  obtain ⟨B2, hB2⟩ : ∃ t, t = vd / gI un vd := ⟨_, rfl⟩
  rw [← hA1] at q1 hL1 g2 g3
  rw [← hB1] at q2 hL1 g7 g8
  rw [← hA2] at q3 hL2 g9 gA
  rw [← hB2] at q4 hL2 g4 g5
  obtain ⟨N, hN⟩ : ∃ t, t = limI A1 B1 := ⟨_, rfl⟩
  obtain ⟨D, hD⟩ : ∃ t, t = limI A2 B2 := ⟨_, rfl⟩
  rw [← hN] at hL1
  rw [← hD] at hL2
  have z1 : (gI un vd == 0) = false := by rw [beq_eq_false_iff_ne]; omega
  have z2 : (gI vn ud == 0) = false := by rw [beq_eq_false_iff_ne]; omega
  have w1 : wrap64 A1 = A1 := IntWalk.wrap64_in _ ⟨by omega, by omega⟩
  have w2 : wrap64 B1 = B1 := IntWalk.wrap64_in _ ⟨by omega, by omega⟩
  have w3 : wrap64 A2 = A2 := IntWalk.wrap64_in _ ⟨by omega, by omega⟩
  have w4 : wrap64 B2 = B2 := IntWalk.wrap64_in _ ⟨by omega, by omega⟩
  have y1 : IntKind.i64.wrap (un.tdiv (gI un vd)) = A1 := by rw [q1]; exact IntWalk.i64_in _ ⟨by omega, by omega⟩
  have y2 : IntKind.i64.wrap (vn.tdiv (gI vn ud)) = B1 := by rw [q2]; exact IntWalk.i64_in _ ⟨by omega, by omega⟩
  have y3 : IntKind.i64.wrap (ud.tdiv (gI vn ud)) = A2 := by rw [q3]; exact IntWalk.i64_in _ ⟨by omega, by omega⟩
  have y4 : IntKind.i64.wrap (vd.tdiv (gI un vd)) = B2 := by rw [q4]; exact IntWalk.i64_in _ ⟨by omega, by omega⟩
  have j1 : 0 ≤ un := by omega
  have j2 : 0 ≤ vn := by omega
  have j3 : 0 ≤ ud := by omega
  have j4 : 0 ≤ vd := by omega
  have j5 : 1 ≤ gI un vd := g1
  have j6 : 1 ≤ gI vn ud := g6
  obtain ⟨G1, hG1e⟩ : ∃ t, t = gI un vd := ⟨_, rfl⟩
  obtain ⟨G2, hG2e⟩ : ∃ t, t = gI vn ud := ⟨_, rfl⟩
  rw [← hG1e] at hG1 q1 q4 y1 y4 z1 hA1 hB2 j5
  rw [← hG2e] at hG2 q2 q3 y2 y3 z2 hB1 hA2 j6
  have q5 := hA1.symm
  have q6 := hB1.symm
  have q7 := hA2.symm
  have q8 := hB2.symm
  have HG1 := Lib.hid hG1
  have HG2 := Lib.hid hG2
  have HL1 := Lib.hid hL1
  have HL2 := Lib.hid hL2
  have hPU : prodU ⟨u0, u1, u2, u3, un, ud, uo⟩ ⟨v0, v1, v2, v3, vn, vd, vo⟩ = ⟨u0 + v0, u1 + v1, u2 + v2, u3 + v3, N, D, 0⟩ := by
    unfold prodU
    rw [hN, hD, hA1, hB1, hA2, hB2, hG1e, hG2e]
  rw [hPU]
  clear hPU hG1 hG2 hL1 hL2 hG1e hG2e hA1 hB1 hA2 hB2 hN hD g1 g2 g3 g4 g5 g6 g7 g8 g9 gA bn bd cn cd
  obtain ⟨s0, hs0⟩ : ∃ t, t = u0 + v0 := ⟨_, rfl⟩
  obtain ⟨s1, hs1⟩ : ∃ t, t = u1 + v1 := ⟨_, rfl⟩
  obtain ⟨s2, hs2⟩ : ∃ t, t = u2 + v2 := ⟨_, rfl⟩
  obtain ⟨s3, hs3⟩ : ∃ t, t = u3 + v3 := ⟨_, rfl⟩
  obtain ⟨e0, e1, e2, e3, e4, e5, e6, e7⟩ := exp_ranges h1
  obtain ⟨f0, f1, f2, f3, f4, f5, f6, f7⟩ := exp_ranges h2
  have k0 : IntKind.i64.wrap (u0 + v0) = s0 := by rw [hs0]; exact IntWalk.i64_in _ ⟨by omega, by omega⟩
  have k1 : IntKind.i64.wrap (u1 + v1) = s1 := by rw [hs1]; exact IntWalk.i64_in _ ⟨by omega, by omega⟩
  have k2 : IntKind.i64.wrap (u2 + v2) = s2 := by rw [hs2]; exact IntWalk.i64_in _ ⟨by omega, by omega⟩
  have k3 : IntKind.i64.wrap (u3 + v3) = s3 := by rw [hs3]; exact IntWalk.i64_in _ ⟨by omega, by omega⟩
  have l0 : wrap64 s0 = s0 := IntWalk.wrap64_in _ ⟨by omega, by omega⟩
  have l1 : wrap64 s1 = s1 := IntWalk.wrap64_in _ ⟨by omega, by omega⟩
  have l2 : wrap64 s2 = s2 := IntWalk.wrap64_in _ ⟨by omega, by omega⟩
  have l3 : wrap64 s3 = s3 := IntWalk.wrap64_in _ ⟨by omega, by omega⟩
  have m0 : u0 + v0 = s0 := hs0.symm
  have m1 : u1 + v1 = s1 := hs1.symm
  have m2 : u2 + v2 = s2 := hs2.symm
  have m3 : u3 + v3 = s3 := hs3.symm
  rw [m0, m1, m2, m3]
  have hV := fun w' => valid_any s0 s1 s2 s3 N D 0 w'
  obtain ⟨Z, hZ⟩ : ∃ Z, Z = validB ⟨s0, s1, s2, s3, N, D, 0⟩ := ⟨_, rfl⟩
  rw [← hZ] at hV ⊢
  have HVA := Lib.hid hV
  clear hV hZ hs0 hs1 hs2 hs3 e0 e1 e2 e3 e4 e5 e6 e7 f0 f1 f2 f3 f4 f5 f6 f7 h1 h2
  go_enter Tryz.func61, Tryz.ntmps61
  go_wp2_with fail
  obtain ⟨W, g, h, R, S, hW, hg, hh, hR, hS, hSg, hSh, hSR, hwR, hwS, P1, S1⟩ := four_units w u0 u1 u2 u3 un ud uo v0 v1 v2 v3 vn vd vo
  rw [← hW]
  try rw [← hS]
  try rw [← hR]
  try rw [← hh]
  try rw [← hg]
  have HP1 := Lib.hid P1
  have HS1 := Lib.hid S1
  clear hW hg hh hR hS P1 S1
  go_loopw [11] (fun i wr => (i = .int .i64 0 ∧ Hid (PR w g h R u0 u1 u2 u3 un ud uo v0 v1 v2 v3 vn vd vo wr ∧ UnitAt wr S 0 0 0 0 0 0 0)) ∨ (i = .int .i64 1 ∧ Hid (PR w g h R u0 u1 u2 u3 un ud uo v0 v1 v2 v3 vn vd vo wr ∧ UnitAt wr S s0 0 0 0 0 0 0)) ∨ (i = .int .i64 2 ∧ Hid (PR w g h R u0 u1 u2 u3 un ud uo v0 v1 v2 v3 vn vd vo wr ∧ UnitAt wr S s0 s1 0 0 0 0 0)) ∨ (i = .int .i64 3 ∧ Hid (PR w g h R u0 u1 u2 u3 un ud uo v0 v1 v2 v3 vn vd vo wr ∧ UnitAt wr S s0 s1 s2 0 0 0 0)) ∨ (i = .int .i64 4 ∧ Hid (PR w g h R u0 u1 u2 u3 un ud uo v0 v1 v2 v3 vn vd vo wr ∧ UnitAt wr S s0 s1 s2 s3 0 0 0))) (fun i _ => 4 - (intOf i).toNat)
  case atStart => exact .inl ⟨rfl, Lib.hid ⟨HP1.out, HS1.out⟩⟩
  case round =>
    rcases hrel with ⟨rfl, HH⟩ | ⟨rfl, HH⟩ | ⟨rfl, HH⟩ | ⟨rfl, HH⟩ | ⟨rfl, HH⟩
    · obtain ⟨hp, hs⟩ := HH.out
      have HP := Lib.hid hp
      have HS := Lib.hid hs
      clear hp hs HH
      obtain ⟨c0, hc0⟩ : ∃ x, x = wr.cell? ⟨g, 0, none⟩ := ⟨_, rfl⟩
      clear hc0 c0
      have p0 := HP.out.c.u.c0
      have p1 := HP.out.c.v.c0
      have p2 := HS.out.c0
      have p3 := HS.out.fz
      go_wp2_with fail
      go_region
      all_goals
        go_wp2_with fail
        go_roundw
        case rel => exact .inr (.inl ⟨rfl, Lib.hid (by first | exact ⟨HP.out.store hSg hSh hSR hwS _ _, HS.out.put_0 _⟩ | exact ⟨(HP.out.store hSg hSh hSR hwS _ _).drew, (HS.out.put_0 _).drew⟩)⟩)
        case measure => simp [intOf]
    · obtain ⟨hp, hs⟩ := HH.out
      have HP := Lib.hid hp
      have HS := Lib.hid hs
      clear hp hs HH
      obtain ⟨c1, hc1⟩ : ∃ x, x = wr.cell? ⟨g, 1, none⟩ := ⟨_, rfl⟩
      clear hc1 c1
      have p0 := HP.out.c.u.c1
      have p1 := HP.out.c.v.c1
      have p2 := HS.out.c1
      have p3 := HS.out.fz
      go_wp2_with fail
      go_region
      all_goals
        go_wp2_with fail
        go_roundw
        case rel => exact .inr (.inr (.inl ⟨rfl, Lib.hid (by first | exact ⟨HP.out.store hSg hSh hSR hwS _ _, HS.out.put_1 _⟩ | exact ⟨(HP.out.store hSg hSh hSR hwS _ _).drew, (HS.out.put_1 _).drew⟩)⟩))
        case measure => simp [intOf]
    · obtain ⟨hp, hs⟩ := HH.out
      have HP := Lib.hid hp
      have HS := Lib.hid hs
      clear hp hs HH
      obtain ⟨c2, hc2⟩ : ∃ x, x = wr.cell? ⟨g, 2, none⟩ := ⟨_, rfl⟩
      clear hc2 c2
      have p0 := HP.out.c.u.c2
      have p1 := HP.out.c.v.c2
      have p2 := HS.out.c2
      have p3 := HS.out.fz
      go_wp2_with fail
      go_region
      all_goals
        go_wp2_with fail
        go_roundw
        case rel => exact .inr (.inr (.inr (.inl ⟨rfl, Lib.hid (by first | exact ⟨HP.out.store hSg hSh hSR hwS _ _, HS.out.put_2 _⟩ | exact ⟨(HP.out.store hSg hSh hSR hwS _ _).drew, (HS.out.put_2 _).drew⟩)⟩)))
        case measure => simp [intOf]
    · obtain ⟨hp, hs⟩ := HH.out
      have HP := Lib.hid hp
      have HS := Lib.hid hs
      clear hp hs HH
      obtain ⟨c3, hc3⟩ : ∃ x, x = wr.cell? ⟨g, 3, none⟩ := ⟨_, rfl⟩
      clear hc3 c3
      have p0 := HP.out.c.u.c3
      have p1 := HP.out.c.v.c3
      have p2 := HS.out.c3
      have p3 := HS.out.fz
      go_wp2_with fail
      go_region
      all_goals
        go_wp2_with fail
        go_roundw
        case rel => exact .inr (.inr (.inr (.inr (⟨rfl, Lib.hid (by first | exact ⟨HP.out.store hSg hSh hSR hwS _ _, HS.out.put_3 _⟩ | exact ⟨(HP.out.store hSg hSh hSR hwS _ _).drew, (HS.out.put_3 _).drew⟩)⟩))))
        case measure => simp [intOf]
    · obtain ⟨hp, hs⟩ := HH.out
      have HP := Lib.hid hp
      have HS := Lib.hid hs
      clear hp hs HH HP1 HS1
      have HD := Lib.hid (ps_of HP.out HS.out)
      have HDD := Lib.hid (ps_drew (ps_of HP.out HS.out))
      unfold PS at HD HDD
      go_wp2_with fail
      go_region_held3 (fun w' => w'.cell? ⟨g, 4, none⟩ = some (.int .i64 un) ∧ w'.cell? ⟨h, 5, none⟩ = some (.int .i64 vd) ∧ w'.cell? ⟨h, 4, none⟩ = some (.int .i64 vn) ∧ w'.cell? ⟨g, 5, none⟩ = some (.int .i64 ud) ∧ PR w g h R u0 u1 u2 u3 un ud uo v0 v1 v2 v3 vn vd vo w' ∧ UnitAt w' S s0 s1 s2 s3 0 0 0)
        (first | exact HD.out | exact HDD.out | exact ps_keep hb2 ‹_› | exact ps_drew ‹_› | go_keep)
        (first | (go_at_call_of 24 (Value.int IntKind.i64 un); refine (HG1.out _).mono ?_; rintro e x1 ⟨rfl, hb2⟩; have HS1 : Hid (PS w g h R S u0 u1 u2 u3 un ud uo v0 v1 v2 v3 vn vd vo s0 s1 s2 s3 0 0 0 x1) := ps_keep hb2 ‹_›) | (go_at_call_of 24 (Value.int IntKind.i64 vn); refine (HG2.out _).mono ?_; rintro e x2 ⟨rfl, hb2⟩; have HS2 : Hid (PS w g h R S u0 u1 u2 u3 un ud uo v0 v1 v2 v3 vn vd vo s0 s1 s2 s3 0 0 0 x2) := ps_keep hb2 ‹_›))
      rename_i hHeld
      obtain ⟨hp, hs⟩ := hHeld.2.2.2.2
      clear hHeld
      have HP2 := Lib.hid hp
      have HS2 := Lib.hid hs
      clear hp hs HD HDD HS HP
      obtain ⟨W7, hW7⟩ : ∃ x, x = x2 := ⟨_, rfl⟩
      rw [← hW7] at HP2 HS2 ⊢
      clear hW7
      go_wp2_with fail
      go_cut [] from 37 to 46 (fun wx => PR w g h R u0 u1 u2 u3 un ud uo v0 v1 v2 v3 vn vd vo wx ∧ UnitAt wx S s0 s1 s2 s3 N 0 0)
      case first =>
        have n4 := HS2.out.c4
        have nz := HS2.out.fz
        have HD := Lib.hid (p4_of HP2.out)
        have HDD := Lib.hid (p4_of HP2.out.drew)
        unfold P4 at HD HDD
        set_option warningAsError false in go_region_held3 (fun w' => w'.cell? ⟨g, 4, none⟩ = some (.int .i64 un) ∧ w'.cell? ⟨h, 4, none⟩ = some (.int .i64 vn) ∧ PR w g h R u0 u1 u2 u3 un ud uo v0 v1 v2 v3 vn vd vo w')
          (first | exact HD.out | exact HDD.out | exact p4_store ‹_› hSg hSh hSR hwS _ _ | exact p4_drew ‹_› | go_keep)
          (first | (go_at_call 72; refine (HL1.out _).mono ?_; rintro e x3 ⟨rfl, rfl⟩))
        all_goals
          rename_i hHeld
          have hC := hHeld.2.2
          clear hHeld n4 nz
          go_wp2_with fail
          go_meet
          first
            | exact ⟨hC, HS2.out.put_4 N⟩
            | exact ⟨hC, (HS2.out.put_4 N).drew⟩
            | exact ⟨hC, HS2.out.drew.put_4 N⟩
      case rest =>
      obtain ⟨hp, hs⟩ := hcut
      have HP3 := Lib.hid hp
      have HS3 := Lib.hid hs
      clear hp hs HS2 HP2
      go_wp2_with fail
      go_cut [] from 47 to 56 (fun wx => PR w g h R u0 u1 u2 u3 un ud uo v0 v1 v2 v3 vn vd vo wx ∧ UnitAt wx S s0 s1 s2 s3 N D 0)
      case first =>
        have n5 := HS3.out.c5
        have nz := HS3.out.fz
        have HD := Lib.hid (p5_of HP3.out)
        have HDD := Lib.hid (p5_of HP3.out.drew)
        unfold P5 at HD HDD
        set_option warningAsError false in go_region_held3 (fun w' => w'.cell? ⟨g, 5, none⟩ = some (.int .i64 ud) ∧ w'.cell? ⟨h, 5, none⟩ = some (.int .i64 vd) ∧ PR w g h R u0 u1 u2 u3 un ud uo v0 v1 v2 v3 vn vd vo w')
          (first | exact HD.out | exact HDD.out | exact p5_store ‹_› hSg hSh hSR hwS _ _ | exact p5_drew ‹_› | go_keep)
          (first | (go_at_call 72; refine (HL2.out _).mono ?_; rintro e x3 ⟨rfl, rfl⟩))
        all_goals
          rename_i hHeld
          have hC := hHeld.2.2
          clear hHeld n5 nz
          go_wp2_with fail
          go_meet
          first
            | exact ⟨hC, HS3.out.put_5 D⟩
            | exact ⟨hC, (HS3.out.put_5 D).drew⟩
            | exact ⟨hC, HS3.out.drew.put_5 D⟩
      case rest =>
      obtain ⟨hp, hs⟩ := hcut
      have HP4 := Lib.hid hp
      have HS4 := Lib.hid hs
      clear hp hs HS3 HP3
      obtain ⟨p0, p1, p2, p3, p4, p5, p6, pz⟩ := HS4.out
      go_wp2_with fail
      refine (HVA.out _).mono ?_
      rintro e w9 ⟨rfl, hb⟩
      have HP5 := Lib.hid (HP4.out.keep hb)
      have HS5 := Lib.hid (HS4.out.keep hb)
      clear hb p0 p1 p2 p3 p4 p5 p6 pz
      obtain ⟨p0, p1, p2, p3, p4, p5, p6, pz⟩ := HS5.out
      obtain ⟨r0, r1, r2, r3, r4, r5, r6, rz⟩ := HP5.out.r
      cases Z
      · go_wp2_with fail
        have hs := (HP5.out.r).set 0 0 0 0 0 0 0
        have y0 : (((((((w9.setCell ⟨R, 0, none⟩ (.int .i64 0)).setCell ⟨R, 1, none⟩ (.int .i64 0)).setCell ⟨R, 2, none⟩ (.int .i64 0)).setCell ⟨R, 3, none⟩ (.int .i64 0)).setCell ⟨R, 4, none⟩ (.int .i64 0)).setCell ⟨R, 5, none⟩ (.int .i64 0)).setCell ⟨R, 6, none⟩ (.int .i64 0)).cell? ⟨R, 0, none⟩ = some (.int .i64 0) := hs.c0
        have y1 : (((((((w9.setCell ⟨R, 0, none⟩ (.int .i64 0)).setCell ⟨R, 1, none⟩ (.int .i64 0)).setCell ⟨R, 2, none⟩ (.int .i64 0)).setCell ⟨R, 3, none⟩ (.int .i64 0)).setCell ⟨R, 4, none⟩ (.int .i64 0)).setCell ⟨R, 5, none⟩ (.int .i64 0)).setCell ⟨R, 6, none⟩ (.int .i64 0)).cell? ⟨R, 1, none⟩ = some (.int .i64 0) := hs.c1
        have y2 : (((((((w9.setCell ⟨R, 0, none⟩ (.int .i64 0)).setCell ⟨R, 1, none⟩ (.int .i64 0)).setCell ⟨R, 2, none⟩ (.int .i64 0)).setCell ⟨R, 3, none⟩ (.int .i64 0)).setCell ⟨R, 4, none⟩ (.int .i64 0)).setCell ⟨R, 5, none⟩ (.int .i64 0)).setCell ⟨R, 6, none⟩ (.int .i64 0)).cell? ⟨R, 2, none⟩ = some (.int .i64 0) := hs.c2
        have y3 : (((((((w9.setCell ⟨R, 0, none⟩ (.int .i64 0)).setCell ⟨R, 1, none⟩ (.int .i64 0)).setCell ⟨R, 2, none⟩ (.int .i64 0)).setCell ⟨R, 3, none⟩ (.int .i64 0)).setCell ⟨R, 4, none⟩ (.int .i64 0)).setCell ⟨R, 5, none⟩ (.int .i64 0)).setCell ⟨R, 6, none⟩ (.int .i64 0)).cell? ⟨R, 3, none⟩ = some (.int .i64 0) := hs.c3
        have y4 : (((((((w9.setCell ⟨R, 0, none⟩ (.int .i64 0)).setCell ⟨R, 1, none⟩ (.int .i64 0)).setCell ⟨R, 2, none⟩ (.int .i64 0)).setCell ⟨R, 3, none⟩ (.int .i64 0)).setCell ⟨R, 4, none⟩ (.int .i64 0)).setCell ⟨R, 5, none⟩ (.int .i64 0)).setCell ⟨R, 6, none⟩ (.int .i64 0)).cell? ⟨R, 4, none⟩ = some (.int .i64 0) := hs.c4
        have y5 : (((((((w9.setCell ⟨R, 0, none⟩ (.int .i64 0)).setCell ⟨R, 1, none⟩ (.int .i64 0)).setCell ⟨R, 2, none⟩ (.int .i64 0)).setCell ⟨R, 3, none⟩ (.int .i64 0)).setCell ⟨R, 4, none⟩ (.int .i64 0)).setCell ⟨R, 5, none⟩ (.int .i64 0)).setCell ⟨R, 6, none⟩ (.int .i64 0)).cell? ⟨R, 5, none⟩ = some (.int .i64 0) := hs.c5
        have y6 : (((((((w9.setCell ⟨R, 0, none⟩ (.int .i64 0)).setCell ⟨R, 1, none⟩ (.int .i64 0)).setCell ⟨R, 2, none⟩ (.int .i64 0)).setCell ⟨R, 3, none⟩ (.int .i64 0)).setCell ⟨R, 4, none⟩ (.int .i64 0)).setCell ⟨R, 5, none⟩ (.int .i64 0)).setCell ⟨R, 6, none⟩ (.int .i64 0)).cell? ⟨R, 6, none⟩ = some (.int .i64 0) := hs.c6
        (try simp only [Exit.inBlock, Exit.then])
        refine bodyPost_ret (by simp [results, Tryz.results61, go_sem, y0, y1, y2, y3, y4, y5, y6]; try rfl) rfl ?_
        exact ⟨rfl, setU_below HP5.out.c.bel hwR 0 0 0 0 0 0 0⟩

      · go_wp2_with fail
        have hs := (HP5.out.r).set s0 s1 s2 s3 N D 0
        have y0 : (((((((w9.setCell ⟨R, 0, none⟩ (.int .i64 s0)).setCell ⟨R, 1, none⟩ (.int .i64 s1)).setCell ⟨R, 2, none⟩ (.int .i64 s2)).setCell ⟨R, 3, none⟩ (.int .i64 s3)).setCell ⟨R, 4, none⟩ (.int .i64 N)).setCell ⟨R, 5, none⟩ (.int .i64 D)).setCell ⟨R, 6, none⟩ (.int .i64 0)).cell? ⟨R, 0, none⟩ = some (.int .i64 s0) := hs.c0
        have y1 : (((((((w9.setCell ⟨R, 0, none⟩ (.int .i64 s0)).setCell ⟨R, 1, none⟩ (.int .i64 s1)).setCell ⟨R, 2, none⟩ (.int .i64 s2)).setCell ⟨R, 3, none⟩ (.int .i64 s3)).setCell ⟨R, 4, none⟩ (.int .i64 N)).setCell ⟨R, 5, none⟩ (.int .i64 D)).setCell ⟨R, 6, none⟩ (.int .i64 0)).cell? ⟨R, 1, none⟩ = some (.int .i64 s1) := hs.c1
        have y2 : (((((((w9.setCell ⟨R, 0, none⟩ (.int .i64 s0)).setCell ⟨R, 1, none⟩ (.int .i64 s1)).setCell ⟨R, 2, none⟩ (.int .i64 s2)).setCell ⟨R, 3, none⟩ (.int .i64 s3)).setCell ⟨R, 4, none⟩ (.int .i64 N)).setCell ⟨R, 5, none⟩ (.int .i64 D)).setCell ⟨R, 6, none⟩ (.int .i64 0)).cell? ⟨R, 2, none⟩ = some (.int .i64 s2) := hs.c2
        have y3 : (((((((w9.setCell ⟨R, 0, none⟩ (.int .i64 s0)).setCell ⟨R, 1, none⟩ (.int .i64 s1)).setCell ⟨R, 2, none⟩ (.int .i64 s2)).setCell ⟨R, 3, none⟩ (.int .i64 s3)).setCell ⟨R, 4, none⟩ (.int .i64 N)).setCell ⟨R, 5, none⟩ (.int .i64 D)).setCell ⟨R, 6, none⟩ (.int .i64 0)).cell? ⟨R, 3, none⟩ = some (.int .i64 s3) := hs.c3
        have y4 : (((((((w9.setCell ⟨R, 0, none⟩ (.int .i64 s0)).setCell ⟨R, 1, none⟩ (.int .i64 s1)).setCell ⟨R, 2, none⟩ (.int .i64 s2)).setCell ⟨R, 3, none⟩ (.int .i64 s3)).setCell ⟨R, 4, none⟩ (.int .i64 N)).setCell ⟨R, 5, none⟩ (.int .i64 D)).setCell ⟨R, 6, none⟩ (.int .i64 0)).cell? ⟨R, 4, none⟩ = some (.int .i64 N) := hs.c4
        have y5 : (((((((w9.setCell ⟨R, 0, none⟩ (.int .i64 s0)).setCell ⟨R, 1, none⟩ (.int .i64 s1)).setCell ⟨R, 2, none⟩ (.int .i64 s2)).setCell ⟨R, 3, none⟩ (.int .i64 s3)).setCell ⟨R, 4, none⟩ (.int .i64 N)).setCell ⟨R, 5, none⟩ (.int .i64 D)).setCell ⟨R, 6, none⟩ (.int .i64 0)).cell? ⟨R, 5, none⟩ = some (.int .i64 D) := hs.c5
        have y6 : (((((((w9.setCell ⟨R, 0, none⟩ (.int .i64 s0)).setCell ⟨R, 1, none⟩ (.int .i64 s1)).setCell ⟨R, 2, none⟩ (.int .i64 s2)).setCell ⟨R, 3, none⟩ (.int .i64 s3)).setCell ⟨R, 4, none⟩ (.int .i64 N)).setCell ⟨R, 5, none⟩ (.int .i64 D)).setCell ⟨R, 6, none⟩ (.int .i64 0)).cell? ⟨R, 6, none⟩ = some (.int .i64 0) := hs.c6
        (try simp only [Exit.inBlock, Exit.then])
        refine bodyPost_ret (by simp [results, Tryz.results61, go_sem, y0, y1, y2, y3, y4, y5, y6]; try rfl) rfl ?_
        exact ⟨rfl, setU_below HP5.out.c.bel hwR s0 s1 s2 s3 N D 0⟩


end Go.Proofs.YtlahoohgbfjciaaGreatDoor
