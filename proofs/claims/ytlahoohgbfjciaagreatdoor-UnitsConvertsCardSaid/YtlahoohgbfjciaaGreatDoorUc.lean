/- A unit in memory of the call's own. Contracts of units.Delta, None, checkFactors. -/
import Derived.Test.YtlahoohgbfjciaaGreatDoorUb
import Derived.Lib.EndianMore
import Derived.Lib.ReflectliteSwap
namespace Go.Proofs.YtlahoohgbfjciaaGreatDoor
open Go.RowKit Go.Shelf

structure UnitAt (w : World) (b : Nat) (e0 e1 e2 e3 n d o : Int) : Prop where
  c0 : w.cell? ⟨b, 0, none⟩ = some (.int .i64 e0)
  c1 : w.cell? ⟨b, 1, none⟩ = some (.int .i64 e1)
  c2 : w.cell? ⟨b, 2, none⟩ = some (.int .i64 e2)
  c3 : w.cell? ⟨b, 3, none⟩ = some (.int .i64 e3)
  c4 : w.cell? ⟨b, 4, none⟩ = some (.int .i64 n)
  c5 : w.cell? ⟨b, 5, none⟩ = some (.int .i64 d)
  c6 : w.cell? ⟨b, 6, none⟩ = some (.int .i64 o)
  fz : ∀ o, w.frozen? ⟨b, o, none⟩ = false
theorem UnitAt.lt {w : World} {b : Nat} {e0 e1 e2 e3 n d o : Int} (t : UnitAt w b e0 e1 e2 e3 n d o) : b < w.heap.size := World.block_lt_of_cell? _ _ t.c0
theorem UnitAt.keep {w w' : World} {b : Nat} {e0 e1 e2 e3 n d o : Int} (t : UnitAt w b e0 e1 e2 e3 n d o) (hb : Below w.heap.size w w') : UnitAt w' b e0 e1 e2 e3 n d o :=
  ⟨(hb.cell (p := ⟨b, 0, none⟩) t.lt).trans t.c0, (hb.cell (p := ⟨b, 1, none⟩) t.lt).trans t.c1, (hb.cell (p := ⟨b, 2, none⟩) t.lt).trans t.c2, (hb.cell (p := ⟨b, 3, none⟩) t.lt).trans t.c3, (hb.cell (p := ⟨b, 4, none⟩) t.lt).trans t.c4, (hb.cell (p := ⟨b, 5, none⟩) t.lt).trans t.c5, (hb.cell (p := ⟨b, 6, none⟩) t.lt).trans t.c6, fun o => (hb.frozen (p := ⟨b, o, none⟩) t.lt).trans (t.fz o)⟩
theorem unit_fresh (w : World) (e0 e1 e2 e3 n d o : Int) : UnitAt (w.alloc (Obj.cells #[.int .i64 e0, .int .i64 e1, .int .i64 e2, .int .i64 e3, .int .i64 n, .int .i64 d, .int .i64 o] 28)) w.heap.size e0 e1 e2 e3 n d o :=
  ⟨World.cell?_alloc_new _ _ _ _, World.cell?_alloc_new _ _ _ _, World.cell?_alloc_new _ _ _ _, World.cell?_alloc_new _ _ _ _, World.cell?_alloc_new _ _ _ _, World.cell?_alloc_new _ _ _ _, World.cell?_alloc_new _ _ _ _, fun o => by simp⟩
/-- the stores of a whole unit -/
def setU (w : World) (b : Nat) (e0 e1 e2 e3 n d o : Int) : World := (((((((w.setCell ⟨b, 0, none⟩ (.int .i64 e0)).setCell ⟨b, 1, none⟩ (.int .i64 e1)).setCell ⟨b, 2, none⟩ (.int .i64 e2)).setCell ⟨b, 3, none⟩ (.int .i64 e3)).setCell ⟨b, 4, none⟩ (.int .i64 n)).setCell ⟨b, 5, none⟩ (.int .i64 d)).setCell ⟨b, 6, none⟩ (.int .i64 o))
theorem setU_cells (w : World) (b : Nat) (e0 e1 e2 e3 n d o : Int) : setU w b e0 e1 e2 e3 n d o = w.setCells b 0 [.int .i64 e0, .int .i64 e1, .int .i64 e2, .int .i64 e3, .int .i64 n, .int .i64 d, .int .i64 o] := rfl
theorem UnitAt.set {w : World} {b : Nat} {p0 p1 p2 p3 p4 p5 p6 : Int} (t : UnitAt w b p0 p1 p2 p3 p4 p5 p6) (e0 e1 e2 e3 n d o : Int) : UnitAt (setU w b e0 e1 e2 e3 n d o) b e0 e1 e2 e3 n d o := by
  have hs : ∀ j, j < 7 → (w.cell? ⟨b, 0 + j, none⟩).isSome = true := fun j hj => by
    rw [Nat.zero_add]
    obtain rfl | rfl | rfl | rfl | rfl | rfl | rfl : j = 0 ∨ j = 1 ∨ j = 2 ∨ j = 3 ∨ j = 4 ∨ j = 5 ∨ j = 6 := by omega
    · rw [t.c0]; rfl
    · rw [t.c1]; rfl
    · rw [t.c2]; rfl
    · rw [t.c3]; rfl
    · rw [t.c4]; rfl
    · rw [t.c5]; rfl
    · rw [t.c6]; rfl
  rw [setU_cells]
  have hin := World.cell?_setCells_in b [.int .i64 e0, .int .i64 e1, .int .i64 e2, .int .i64 e3, .int .i64 n, .int .i64 d, .int .i64 o] 0 w (fun j hj => hs j hj)
  exact ⟨hin 0 (by simp), hin 1 (by simp), hin 2 (by simp), hin 3 (by simp), hin 4 (by simp), hin 5 (by simp), hin 6 (by simp), fun o => by rw [World.frozen?_setCells]; exact t.fz o⟩
theorem setU_below {B : Nat} {w0 w : World} {b : Nat} (h : Below B w0 w) (hb : B ≤ b) (e0 e1 e2 e3 n d o : Int) : Below B w0 (setU w b e0 e1 e2 e3 n d o) := h.trans (by rw [setU_cells]; exact Lib.below_setCells_w hb _ _ _)
theorem UnitAt.other {w : World} {b g : Nat} {p0 p1 p2 p3 p4 p5 p6 : Int} (t : UnitAt w b p0 p1 p2 p3 p4 p5 p6) (hne : g ≠ b) (e0 e1 e2 e3 n d o : Int) : UnitAt (setU w g e0 e1 e2 e3 n d o) b p0 p1 p2 p3 p4 p5 p6 := by
  have h : ∀ k, (setU w g e0 e1 e2 e3 n d o).cell? ⟨b, k, none⟩ = w.cell? ⟨b, k, none⟩ := fun k => by
    unfold setU
    iterate 7 rw [World.cell?_setCell_other _ _ _ _ (fun e => hne (congrArg Addr.block e))]
  exact ⟨(h 0).trans t.c0, (h 1).trans t.c1, (h 2).trans t.c2, (h 3).trans t.c3, (h 4).trans t.c4, (h 5).trans t.c5, (h 6).trans t.c6, fun o => by rw [setU_cells, World.frozen?_setCells]; exact t.fz o⟩

set_option maxHeartbeats 1000000 in
theorem delta_any (e0 e1 e2 e3 n d o : Int) (w : World) :
    Calls Tryz.prog 22 #[.agg #[.int .i64 e0, .int .i64 e1, .int .i64 e2, .int .i64 e3, .int .i64 n, .int .i64 d, .int .i64 o]] w fun e w' => e = .returned (if validB ⟨e0, e1, e2, e3, n, d, o⟩ = true then .tuple #[.agg #[.int .i64 e0, .int .i64 e1, .int .i64 e2, .int .i64 e3, .int .i64 n, .int .i64 d, .int .i64 0], .int .i64 0] else .tuple #[.agg #[.int .i64 0, .int .i64 0, .int .i64 0, .int .i64 0, .int .i64 0, .int .i64 0, .int .i64 0], .int .i64 1]) ∧ Below w.heap.size w w' := by
  have hV := fun w' => valid_any e0 e1 e2 e3 n d o w'
  obtain ⟨Z, hZ⟩ : ∃ Z, Z = validB ⟨e0, e1, e2, e3, n, d, o⟩ := ⟨_, rfl⟩
  rw [← hZ] at hV ⊢
  have HV := Lib.hid hV
  clear hV hZ
  have u0 := unit_fresh w e0 e1 e2 e3 n d o
  have b0 := (Below.refl w.heap.size w).alloc (Nat.le_refl _) (Obj.cells #[.int .i64 e0, .int .i64 e1, .int .i64 e2, .int .i64 e3, .int .i64 n, .int .i64 d, .int .i64 o] 28)
  have sz := World.size_alloc w (Obj.cells #[.int .i64 e0, .int .i64 e1, .int .i64 e2, .int .i64 e3, .int .i64 n, .int .i64 d, .int .i64 o] 28)
  have r0 := unit_fresh (w.alloc (Obj.cells #[.int .i64 e0, .int .i64 e1, .int .i64 e2, .int .i64 e3, .int .i64 n, .int .i64 d, .int .i64 o] 28)) 0 0 0 0 0 0 0
  rw [sz] at r0
  have b1 := b0.alloc b0.size (Obj.cells #[.int .i64 0, .int .i64 0, .int .i64 0, .int .i64 0, .int .i64 0, .int .i64 0, .int .i64 0] 28)
  have u1 := u0.keep ((Below.refl _ _).alloc (Nat.le_refl _) (Obj.cells #[.int .i64 0, .int .i64 0, .int .i64 0, .int .i64 0, .int .i64 0, .int .i64 0, .int .i64 0] 28))
  obtain ⟨W, hW⟩ : ∃ W, W = (w.alloc (Obj.cells #[.int .i64 e0, .int .i64 e1, .int .i64 e2, .int .i64 e3, .int .i64 n, .int .i64 d, .int .i64 o] 28)).alloc (Obj.cells #[.int .i64 0, .int .i64 0, .int .i64 0, .int .i64 0, .int .i64 0, .int .i64 0, .int .i64 0] 28) := ⟨_, rfl⟩
  rw [← hW] at r0 b1 u1
  obtain ⟨g, hg⟩ : ∃ g, g = w.heap.size := ⟨_, rfl⟩
  obtain ⟨R, hR⟩ : ∃ R, R = w.heap.size + 1 := ⟨_, rfl⟩
  have hgR : R ≠ g := by omega
  have hwR : w.heap.size ≤ R := by omega
  have hwg : w.heap.size ≤ g := by omega
  rw [← hg] at u1
  rw [← hR] at r0
  have U1 := Lib.hid u1
  have R1 := Lib.hid r0
  have B1 := Lib.hid b1
  have HW := Lib.hid hW
  have HG := Lib.hid (And.intro hg hR)
  clear u0 b0 sz r0 b1 u1 hW hg hR
  cases Z
  · rw [if_neg (by simp)]
    go_enter Tryz.func22, Tryz.ntmps22
    go_wp2_with fail
    rw [← HG.out.2, ← HG.out.1, ← HW.out]
    refine (HV.out _).mono ?_
    rintro e w1 ⟨rfl, hb⟩
    have R2 := Lib.hid (R1.out.keep hb)
    have U2 := Lib.hid (U1.out.keep hb)
    have B2 := Lib.hid (B1.out.trans (hb.mono B1.out.size))
    clear hb
    obtain ⟨q0, q1, q2, q3, q4, q5, q6, qz⟩ := R2.out
    go_wp2_with fail
    have hs := (R2.out).set 0 0 0 0 0 0 0
    have y0 : (((((((w1.setCell ⟨R, 0, none⟩ (.int .i64 0)).setCell ⟨R, 1, none⟩ (.int .i64 0)).setCell ⟨R, 2, none⟩ (.int .i64 0)).setCell ⟨R, 3, none⟩ (.int .i64 0)).setCell ⟨R, 4, none⟩ (.int .i64 0)).setCell ⟨R, 5, none⟩ (.int .i64 0)).setCell ⟨R, 6, none⟩ (.int .i64 0)).cell? ⟨R, 0, none⟩ = some (.int .i64 0) := hs.c0
    have y1 : (((((((w1.setCell ⟨R, 0, none⟩ (.int .i64 0)).setCell ⟨R, 1, none⟩ (.int .i64 0)).setCell ⟨R, 2, none⟩ (.int .i64 0)).setCell ⟨R, 3, none⟩ (.int .i64 0)).setCell ⟨R, 4, none⟩ (.int .i64 0)).setCell ⟨R, 5, none⟩ (.int .i64 0)).setCell ⟨R, 6, none⟩ (.int .i64 0)).cell? ⟨R, 1, none⟩ = some (.int .i64 0) := hs.c1
    have y2 : (((((((w1.setCell ⟨R, 0, none⟩ (.int .i64 0)).setCell ⟨R, 1, none⟩ (.int .i64 0)).setCell ⟨R, 2, none⟩ (.int .i64 0)).setCell ⟨R, 3, none⟩ (.int .i64 0)).setCell ⟨R, 4, none⟩ (.int .i64 0)).setCell ⟨R, 5, none⟩ (.int .i64 0)).setCell ⟨R, 6, none⟩ (.int .i64 0)).cell? ⟨R, 2, none⟩ = some (.int .i64 0) := hs.c2
    have y3 : (((((((w1.setCell ⟨R, 0, none⟩ (.int .i64 0)).setCell ⟨R, 1, none⟩ (.int .i64 0)).setCell ⟨R, 2, none⟩ (.int .i64 0)).setCell ⟨R, 3, none⟩ (.int .i64 0)).setCell ⟨R, 4, none⟩ (.int .i64 0)).setCell ⟨R, 5, none⟩ (.int .i64 0)).setCell ⟨R, 6, none⟩ (.int .i64 0)).cell? ⟨R, 3, none⟩ = some (.int .i64 0) := hs.c3
    have y4 : (((((((w1.setCell ⟨R, 0, none⟩ (.int .i64 0)).setCell ⟨R, 1, none⟩ (.int .i64 0)).setCell ⟨R, 2, none⟩ (.int .i64 0)).setCell ⟨R, 3, none⟩ (.int .i64 0)).setCell ⟨R, 4, none⟩ (.int .i64 0)).setCell ⟨R, 5, none⟩ (.int .i64 0)).setCell ⟨R, 6, none⟩ (.int .i64 0)).cell? ⟨R, 4, none⟩ = some (.int .i64 0) := hs.c4
    have y5 : (((((((w1.setCell ⟨R, 0, none⟩ (.int .i64 0)).setCell ⟨R, 1, none⟩ (.int .i64 0)).setCell ⟨R, 2, none⟩ (.int .i64 0)).setCell ⟨R, 3, none⟩ (.int .i64 0)).setCell ⟨R, 4, none⟩ (.int .i64 0)).setCell ⟨R, 5, none⟩ (.int .i64 0)).setCell ⟨R, 6, none⟩ (.int .i64 0)).cell? ⟨R, 5, none⟩ = some (.int .i64 0) := hs.c5
    have y6 : (((((((w1.setCell ⟨R, 0, none⟩ (.int .i64 0)).setCell ⟨R, 1, none⟩ (.int .i64 0)).setCell ⟨R, 2, none⟩ (.int .i64 0)).setCell ⟨R, 3, none⟩ (.int .i64 0)).setCell ⟨R, 4, none⟩ (.int .i64 0)).setCell ⟨R, 5, none⟩ (.int .i64 0)).setCell ⟨R, 6, none⟩ (.int .i64 0)).cell? ⟨R, 6, none⟩ = some (.int .i64 0) := hs.c6
    (try simp only [Exit.inBlock, Exit.then])
    refine bodyPost_ret (by simp [results, Tryz.results22, go_sem, y0, y1, y2, y3, y4, y5, y6]; try rfl) rfl ?_
    exact ⟨rfl, setU_below B2.out hwR 0 0 0 0 0 0 0⟩
  · rw [if_pos rfl]
    go_enter Tryz.func22, Tryz.ntmps22
    go_wp2_with fail
    rw [← HG.out.2, ← HG.out.1, ← HW.out]
    refine (HV.out _).mono ?_
    rintro e w1 ⟨rfl, hb⟩
    have R2 := Lib.hid (R1.out.keep hb)
    have U2 := Lib.hid (U1.out.keep hb)
    have B2 := Lib.hid (B1.out.trans (hb.mono B1.out.size))
    clear hb
    obtain ⟨u0, u1, u2, u3, u4, u5, u6, uz⟩ := U2.out
    obtain ⟨q0, q1, q2, q3, q4, q5, q6, qz⟩ := R2.out
    have hn0 : UnitAt (w1.setCell ⟨g, 6, none⟩ (.int .i64 0)) g e0 e1 e2 e3 n d 0 :=
      ⟨(World.cell?_setCell_other _ _ _ _ (by simp)).trans u0, (World.cell?_setCell_other _ _ _ _ (by simp)).trans u1, (World.cell?_setCell_other _ _ _ _ (by simp)).trans u2, (World.cell?_setCell_other _ _ _ _ (by simp)).trans u3, (World.cell?_setCell_other _ _ _ _ (by simp)).trans u4, (World.cell?_setCell_other _ _ _ _ (by simp)).trans u5, World.cell?_setCell_same _ _ _ u6, fun o => by rw [World.frozen?_setCell]; exact uz o⟩
    have hr0 : UnitAt (w1.setCell ⟨g, 6, none⟩ (.int .i64 0)) R 0 0 0 0 0 0 0 :=
      ⟨(World.cell?_setCell_other _ _ _ _ (fun e => hgR (congrArg Addr.block e).symm)).trans q0, (World.cell?_setCell_other _ _ _ _ (fun e => hgR (congrArg Addr.block e).symm)).trans q1, (World.cell?_setCell_other _ _ _ _ (fun e => hgR (congrArg Addr.block e).symm)).trans q2, (World.cell?_setCell_other _ _ _ _ (fun e => hgR (congrArg Addr.block e).symm)).trans q3, (World.cell?_setCell_other _ _ _ _ (fun e => hgR (congrArg Addr.block e).symm)).trans q4, (World.cell?_setCell_other _ _ _ _ (fun e => hgR (congrArg Addr.block e).symm)).trans q5, (World.cell?_setCell_other _ _ _ _ (fun e => hgR (congrArg Addr.block e).symm)).trans q6, fun o => by rw [World.frozen?_setCell]; exact qz o⟩
    have N2 := Lib.hid hn0
    have R3 := Lib.hid hr0
    have B3 := Lib.hid (B2.out.setCell hwg (.int .i64 0) (p := ⟨g, 6, none⟩))
    clear hn0 hr0
    obtain ⟨a0, a1, a2, a3, a4, a5, a6, az⟩ := N2.out
    obtain ⟨r0, r1, r2, r3, r4, r5, r6, rz⟩ := R3.out
    go_wp2_with fail
    have hs := (R3.out).set e0 e1 e2 e3 n d 0
    have y0 : ((((((((w1.setCell ⟨g, 6, none⟩ (.int .i64 0)).setCell ⟨R, 0, none⟩ (.int .i64 e0)).setCell ⟨R, 1, none⟩ (.int .i64 e1)).setCell ⟨R, 2, none⟩ (.int .i64 e2)).setCell ⟨R, 3, none⟩ (.int .i64 e3)).setCell ⟨R, 4, none⟩ (.int .i64 n)).setCell ⟨R, 5, none⟩ (.int .i64 d)).setCell ⟨R, 6, none⟩ (.int .i64 0)).cell? ⟨R, 0, none⟩ = some (.int .i64 e0) := hs.c0
    have y1 : ((((((((w1.setCell ⟨g, 6, none⟩ (.int .i64 0)).setCell ⟨R, 0, none⟩ (.int .i64 e0)).setCell ⟨R, 1, none⟩ (.int .i64 e1)).setCell ⟨R, 2, none⟩ (.int .i64 e2)).setCell ⟨R, 3, none⟩ (.int .i64 e3)).setCell ⟨R, 4, none⟩ (.int .i64 n)).setCell ⟨R, 5, none⟩ (.int .i64 d)).setCell ⟨R, 6, none⟩ (.int .i64 0)).cell? ⟨R, 1, none⟩ = some (.int .i64 e1) := hs.c1
    have y2 : ((((((((w1.setCell ⟨g, 6, none⟩ (.int .i64 0)).setCell ⟨R, 0, none⟩ (.int .i64 e0)).setCell ⟨R, 1, none⟩ (.int .i64 e1)).setCell ⟨R, 2, none⟩ (.int .i64 e2)).setCell ⟨R, 3, none⟩ (.int .i64 e3)).setCell ⟨R, 4, none⟩ (.int .i64 n)).setCell ⟨R, 5, none⟩ (.int .i64 d)).setCell ⟨R, 6, none⟩ (.int .i64 0)).cell? ⟨R, 2, none⟩ = some (.int .i64 e2) := hs.c2
    have y3 : ((((((((w1.setCell ⟨g, 6, none⟩ (.int .i64 0)).setCell ⟨R, 0, none⟩ (.int .i64 e0)).setCell ⟨R, 1, none⟩ (.int .i64 e1)).setCell ⟨R, 2, none⟩ (.int .i64 e2)).setCell ⟨R, 3, none⟩ (.int .i64 e3)).setCell ⟨R, 4, none⟩ (.int .i64 n)).setCell ⟨R, 5, none⟩ (.int .i64 d)).setCell ⟨R, 6, none⟩ (.int .i64 0)).cell? ⟨R, 3, none⟩ = some (.int .i64 e3) := hs.c3
    have y4 : ((((((((w1.setCell ⟨g, 6, none⟩ (.int .i64 0)).setCell ⟨R, 0, none⟩ (.int .i64 e0)).setCell ⟨R, 1, none⟩ (.int .i64 e1)).setCell ⟨R, 2, none⟩ (.int .i64 e2)).setCell ⟨R, 3, none⟩ (.int .i64 e3)).setCell ⟨R, 4, none⟩ (.int .i64 n)).setCell ⟨R, 5, none⟩ (.int .i64 d)).setCell ⟨R, 6, none⟩ (.int .i64 0)).cell? ⟨R, 4, none⟩ = some (.int .i64 n) := hs.c4
    have y5 : ((((((((w1.setCell ⟨g, 6, none⟩ (.int .i64 0)).setCell ⟨R, 0, none⟩ (.int .i64 e0)).setCell ⟨R, 1, none⟩ (.int .i64 e1)).setCell ⟨R, 2, none⟩ (.int .i64 e2)).setCell ⟨R, 3, none⟩ (.int .i64 e3)).setCell ⟨R, 4, none⟩ (.int .i64 n)).setCell ⟨R, 5, none⟩ (.int .i64 d)).setCell ⟨R, 6, none⟩ (.int .i64 0)).cell? ⟨R, 5, none⟩ = some (.int .i64 d) := hs.c5
    have y6 : ((((((((w1.setCell ⟨g, 6, none⟩ (.int .i64 0)).setCell ⟨R, 0, none⟩ (.int .i64 e0)).setCell ⟨R, 1, none⟩ (.int .i64 e1)).setCell ⟨R, 2, none⟩ (.int .i64 e2)).setCell ⟨R, 3, none⟩ (.int .i64 e3)).setCell ⟨R, 4, none⟩ (.int .i64 n)).setCell ⟨R, 5, none⟩ (.int .i64 d)).setCell ⟨R, 6, none⟩ (.int .i64 0)).cell? ⟨R, 6, none⟩ = some (.int .i64 0) := hs.c6
    (try simp only [Exit.inBlock, Exit.then])
    refine bodyPost_ret (by simp [results, Tryz.results22, go_sem, y0, y1, y2, y3, y4, y5, y6]; try rfl) rfl ?_
    exact ⟨rfl, setU_below B3.out hwR e0 e1 e2 e3 n d 0⟩
end Go.Proofs.YtlahoohgbfjciaaGreatDoor
