/- The contract of units.cutScale. -/
import Derived.Test.YtlahoohgbfjciaaGreatDoorVa
import Derived.Test.YtlahoohgbfjciaaGreatDoorUx
import Derived.Deep.RegionHeld3
namespace Go.Proofs.YtlahoohgbfjciaaGreatDoor
open Go.RowKit Go.Shelf

theorem below_chain7 {w W : World} {B R : Nat} {e0 e1 e2 e3 e4 e5 e6 : Int} (h : Below B w W) (hb : B ≤ R) : Below B w ((((((((W.setCell ⟨R, 0, none⟩ (.int .i64 e0)).setCell ⟨R, 1, none⟩ (.int .i64 e1)).setCell ⟨R, 2, none⟩ (.int .i64 e2)).setCell ⟨R, 3, none⟩ (.int .i64 e3)).setCell ⟨R, 4, none⟩ (.int .i64 e4)).setCell ⟨R, 5, none⟩ (.int .i64 e5)).setCell ⟨R, 6, none⟩ (.int .i64 e6))) := setU_below h hb e0 e1 e2 e3 e4 e5 e6
set_option maxHeartbeats 1000000 in
theorem scale_none (s A Rs : ByteArray) (w : World) (hg : Gu w) (HC : Hid (∀ w, Calls Tryz.prog 46 #[.string s, .string ⟨#[42]⟩] w fun e w' => e = .returned (.tuple #[.string A, .string Rs, .bool false]) ∧ Below w.heap.size w w')) :
    Calls Tryz.prog 45 #[.string s] w fun e w' => e = .returned (.tuple #[.agg #[.int .i64 0, .int .i64 0, .int .i64 0, .int .i64 0, .int .i64 1, .int .i64 1, .int .i64 0], .string s, .bool true]) ∧ Below w.heap.size w w' := by
  go_enter Tryz.func45, Tryz.ntmps45
  go_wp2_with fail
  obtain ⟨W, R, hW, hR, hwR, R1, B1⟩ := one_unit w
  have g1 := hg.below ((Below.refl w.heap.size w).alloc (Nat.le_refl _) (Obj.cells #[.int .i64 0, .int .i64 0, .int .i64 0, .int .i64 0, .int .i64 0, .int .i64 0, .int .i64 0] 28))
  rw [← hW] at g1 ⊢
  rw [← hR]
  have HR0 := Lib.hid R1
  have HB0 := Lib.hid B1
  have HG0 := Lib.hid g1
  clear hW hR R1 B1 g1 hg
  refine (HC.out _).mono ?_
  rintro e w1 ⟨rfl, hb⟩
  have HR1 := Lib.hid (HR0.out.keep hb)
  have HB1 := Lib.hid (HB0.out.trans (hb.mono HB0.out.size))
  have HG1 := Lib.hid (HG0.out.below hb)
  clear hb
  go_wp2_with fail
  refine (none_any _).mono ?_
  rintro e w2 ⟨rfl, hb⟩
  have HR2 := Lib.hid (HR1.out.keep hb)
  have HB2 := Lib.hid (HB1.out.trans (hb.mono HB1.out.size))
  have HG2 := Lib.hid (HG1.out.below hb)
  clear hb
  obtain ⟨r0, r1, r2, r3, r4, r5, r6, rz⟩ := HR2.out
  go_wp2_with fail
  have hs := (HR2.out).set 0 0 0 0 1 1 0
  have y0 : (((((((w2.setCell ⟨R, 0, none⟩ (.int .i64 0)).setCell ⟨R, 1, none⟩ (.int .i64 0)).setCell ⟨R, 2, none⟩ (.int .i64 0)).setCell ⟨R, 3, none⟩ (.int .i64 0)).setCell ⟨R, 4, none⟩ (.int .i64 1)).setCell ⟨R, 5, none⟩ (.int .i64 1)).setCell ⟨R, 6, none⟩ (.int .i64 0)).cell? ⟨R, 0, none⟩ = some (.int .i64 0) := hs.c0
  have y1 : (((((((w2.setCell ⟨R, 0, none⟩ (.int .i64 0)).setCell ⟨R, 1, none⟩ (.int .i64 0)).setCell ⟨R, 2, none⟩ (.int .i64 0)).setCell ⟨R, 3, none⟩ (.int .i64 0)).setCell ⟨R, 4, none⟩ (.int .i64 1)).setCell ⟨R, 5, none⟩ (.int .i64 1)).setCell ⟨R, 6, none⟩ (.int .i64 0)).cell? ⟨R, 1, none⟩ = some (.int .i64 0) := hs.c1
  have y2 : (((((((w2.setCell ⟨R, 0, none⟩ (.int .i64 0)).setCell ⟨R, 1, none⟩ (.int .i64 0)).setCell ⟨R, 2, none⟩ (.int .i64 0)).setCell ⟨R, 3, none⟩ (.int .i64 0)).setCell ⟨R, 4, none⟩ (.int .i64 1)).setCell ⟨R, 5, none⟩ (.int .i64 1)).setCell ⟨R, 6, none⟩ (.int .i64 0)).cell? ⟨R, 2, none⟩ = some (.int .i64 0) := hs.c2
  have y3 : (((((((w2.setCell ⟨R, 0, none⟩ (.int .i64 0)).setCell ⟨R, 1, none⟩ (.int .i64 0)).setCell ⟨R, 2, none⟩ (.int .i64 0)).setCell ⟨R, 3, none⟩ (.int .i64 0)).setCell ⟨R, 4, none⟩ (.int .i64 1)).setCell ⟨R, 5, none⟩ (.int .i64 1)).setCell ⟨R, 6, none⟩ (.int .i64 0)).cell? ⟨R, 3, none⟩ = some (.int .i64 0) := hs.c3
  have y4 : (((((((w2.setCell ⟨R, 0, none⟩ (.int .i64 0)).setCell ⟨R, 1, none⟩ (.int .i64 0)).setCell ⟨R, 2, none⟩ (.int .i64 0)).setCell ⟨R, 3, none⟩ (.int .i64 0)).setCell ⟨R, 4, none⟩ (.int .i64 1)).setCell ⟨R, 5, none⟩ (.int .i64 1)).setCell ⟨R, 6, none⟩ (.int .i64 0)).cell? ⟨R, 4, none⟩ = some (.int .i64 1) := hs.c4
  have y5 : (((((((w2.setCell ⟨R, 0, none⟩ (.int .i64 0)).setCell ⟨R, 1, none⟩ (.int .i64 0)).setCell ⟨R, 2, none⟩ (.int .i64 0)).setCell ⟨R, 3, none⟩ (.int .i64 0)).setCell ⟨R, 4, none⟩ (.int .i64 1)).setCell ⟨R, 5, none⟩ (.int .i64 1)).setCell ⟨R, 6, none⟩ (.int .i64 0)).cell? ⟨R, 5, none⟩ = some (.int .i64 1) := hs.c5
  have y6 : (((((((w2.setCell ⟨R, 0, none⟩ (.int .i64 0)).setCell ⟨R, 1, none⟩ (.int .i64 0)).setCell ⟨R, 2, none⟩ (.int .i64 0)).setCell ⟨R, 3, none⟩ (.int .i64 0)).setCell ⟨R, 4, none⟩ (.int .i64 1)).setCell ⟨R, 5, none⟩ (.int .i64 1)).setCell ⟨R, 6, none⟩ (.int .i64 0)).cell? ⟨R, 6, none⟩ = some (.int .i64 0) := hs.c6
  (try simp only [Exit.inBlock, Exit.then])
  refine bodyPost_ret (by simp [results, Tryz.results45, go_sem, y0, y1, y2, y3, y4, y5, y6]; try rfl) rfl ?_
  exact ⟨rfl, setU_below HB2.out hwR 0 0 0 0 1 1 0⟩

set_option maxHeartbeats 1000000 in
theorem scale_one_bad0 (N D : Int) (s A Rs D1 D2 : ByteArray) (w : World) (hg : Gu w) (HC : Hid (∀ w, Calls Tryz.prog 46 #[.string s, .string ⟨#[42]⟩] w fun e w' => e = .returned (.tuple #[.string A, .string Rs, .bool true]) ∧ Below w.heap.size w w')) (HD : Hid (∀ w, Calls Tryz.prog 46 #[.string A, .string ⟨#[47]⟩] w fun e w' => e = .returned (.tuple #[.string D1, .string D2, .bool false]) ∧ Below w.heap.size w w')) (HN1 : Hid (∀ w, Gu w → Calls Tryz.prog 56 #[.string D1] w fun e w' => e = .returned (.int .i64 N) ∧ Below w.heap.size w w')) (HN2 : Hid (∀ w, Gu w → Calls Tryz.prog 56 #[.string ⟨#[49]⟩] w fun e w' => e = .returned (.int .i64 D) ∧ Below w.heap.size w w')) (hN : N = 0) :
    Calls Tryz.prog 45 #[.string s] w fun e w' => e = .returned (.tuple #[.agg #[.int .i64 0, .int .i64 0, .int .i64 0, .int .i64 0, .int .i64 0, .int .i64 0, .int .i64 0], .string ⟨#[]⟩, .bool false]) ∧ Below w.heap.size w w' := by
  have t0 : (N == 0) = true := by rw [beq_iff_eq]; exact hN
  clear hN
  go_enter Tryz.func45, Tryz.ntmps45
  go_wp2_with fail
  obtain ⟨W, R, hW, hR, hwR, R1, B1⟩ := one_unit w
  have g1 := hg.below ((Below.refl w.heap.size w).alloc (Nat.le_refl _) (Obj.cells #[.int .i64 0, .int .i64 0, .int .i64 0, .int .i64 0, .int .i64 0, .int .i64 0, .int .i64 0] 28))
  rw [← hW] at g1 ⊢
  rw [← hR]
  have HR0 := Lib.hid R1
  have HB0 := Lib.hid B1
  have HG0 := Lib.hid g1
  clear hW hR R1 B1 g1 hg
  refine (HC.out _).mono ?_
  rintro e w1 ⟨rfl, hb⟩
  have HR1 := Lib.hid (HR0.out.keep hb)
  have HB1 := Lib.hid (HB0.out.trans (hb.mono HB0.out.size))
  have HG1 := Lib.hid (HG0.out.below hb)
  clear hb
  go_wp2_with fail
  refine (HD.out _).mono ?_
  rintro e w2 ⟨rfl, hb⟩
  have HR2 := Lib.hid (HR1.out.keep hb)
  have HB2 := Lib.hid (HB1.out.trans (hb.mono HB1.out.size))
  have HG2 := Lib.hid (HG1.out.below hb)
  clear hb
  go_wp2_with fail
  refine (HN1.out _ HG2.out).mono ?_
  rintro e w3 ⟨rfl, hb⟩
  have HR3 := Lib.hid (HR2.out.keep hb)
  have HB3 := Lib.hid (HB2.out.trans (hb.mono HB2.out.size))
  have HG3 := Lib.hid (HG2.out.below hb)
  clear hb
  go_wp2_with fail
  refine (HN2.out _ HG3.out).mono ?_
  rintro e w4 ⟨rfl, hb⟩
  have HR4 := Lib.hid (HR3.out.keep hb)
  have HB4 := Lib.hid (HB3.out.trans (hb.mono HB3.out.size))
  have HG4 := Lib.hid (HG3.out.below hb)
  clear hb
  obtain ⟨r0, r1, r2, r3, r4, r5, r6, rz⟩ := HR4.out
  go_wp2_with fail
  have hs := (HR4.out).set 0 0 0 0 0 0 0
  have y0 : (((((((w4.setCell ⟨R, 0, none⟩ (.int .i64 0)).setCell ⟨R, 1, none⟩ (.int .i64 0)).setCell ⟨R, 2, none⟩ (.int .i64 0)).setCell ⟨R, 3, none⟩ (.int .i64 0)).setCell ⟨R, 4, none⟩ (.int .i64 0)).setCell ⟨R, 5, none⟩ (.int .i64 0)).setCell ⟨R, 6, none⟩ (.int .i64 0)).cell? ⟨R, 0, none⟩ = some (.int .i64 0) := hs.c0
  have y1 : (((((((w4.setCell ⟨R, 0, none⟩ (.int .i64 0)).setCell ⟨R, 1, none⟩ (.int .i64 0)).setCell ⟨R, 2, none⟩ (.int .i64 0)).setCell ⟨R, 3, none⟩ (.int .i64 0)).setCell ⟨R, 4, none⟩ (.int .i64 0)).setCell ⟨R, 5, none⟩ (.int .i64 0)).setCell ⟨R, 6, none⟩ (.int .i64 0)).cell? ⟨R, 1, none⟩ = some (.int .i64 0) := hs.c1
  have y2 : (((((((w4.setCell ⟨R, 0, none⟩ (.int .i64 0)).setCell ⟨R, 1, none⟩ (.int .i64 0)).setCell ⟨R, 2, none⟩ (.int .i64 0)).setCell ⟨R, 3, none⟩ (.int .i64 0)).setCell ⟨R, 4, none⟩ (.int .i64 0)).setCell ⟨R, 5, none⟩ (.int .i64 0)).setCell ⟨R, 6, none⟩ (.int .i64 0)).cell? ⟨R, 2, none⟩ = some (.int .i64 0) := hs.c2
  have y3 : (((((((w4.setCell ⟨R, 0, none⟩ (.int .i64 0)).setCell ⟨R, 1, none⟩ (.int .i64 0)).setCell ⟨R, 2, none⟩ (.int .i64 0)).setCell ⟨R, 3, none⟩ (.int .i64 0)).setCell ⟨R, 4, none⟩ (.int .i64 0)).setCell ⟨R, 5, none⟩ (.int .i64 0)).setCell ⟨R, 6, none⟩ (.int .i64 0)).cell? ⟨R, 3, none⟩ = some (.int .i64 0) := hs.c3
  have y4 : (((((((w4.setCell ⟨R, 0, none⟩ (.int .i64 0)).setCell ⟨R, 1, none⟩ (.int .i64 0)).setCell ⟨R, 2, none⟩ (.int .i64 0)).setCell ⟨R, 3, none⟩ (.int .i64 0)).setCell ⟨R, 4, none⟩ (.int .i64 0)).setCell ⟨R, 5, none⟩ (.int .i64 0)).setCell ⟨R, 6, none⟩ (.int .i64 0)).cell? ⟨R, 4, none⟩ = some (.int .i64 0) := hs.c4
  have y5 : (((((((w4.setCell ⟨R, 0, none⟩ (.int .i64 0)).setCell ⟨R, 1, none⟩ (.int .i64 0)).setCell ⟨R, 2, none⟩ (.int .i64 0)).setCell ⟨R, 3, none⟩ (.int .i64 0)).setCell ⟨R, 4, none⟩ (.int .i64 0)).setCell ⟨R, 5, none⟩ (.int .i64 0)).setCell ⟨R, 6, none⟩ (.int .i64 0)).cell? ⟨R, 5, none⟩ = some (.int .i64 0) := hs.c5
  have y6 : (((((((w4.setCell ⟨R, 0, none⟩ (.int .i64 0)).setCell ⟨R, 1, none⟩ (.int .i64 0)).setCell ⟨R, 2, none⟩ (.int .i64 0)).setCell ⟨R, 3, none⟩ (.int .i64 0)).setCell ⟨R, 4, none⟩ (.int .i64 0)).setCell ⟨R, 5, none⟩ (.int .i64 0)).setCell ⟨R, 6, none⟩ (.int .i64 0)).cell? ⟨R, 6, none⟩ = some (.int .i64 0) := hs.c6
  (try simp only [Exit.inBlock, Exit.then])
  refine bodyPost_ret (by simp [results, Tryz.results45, go_sem, y0, y1, y2, y3, y4, y5, y6]; try rfl) rfl ?_
  exact ⟨rfl, setU_below HB4.out hwR 0 0 0 0 0 0 0⟩

set_option maxHeartbeats 1000000 in
theorem scale_one_bad1 (N D : Int) (s A Rs D1 D2 : ByteArray) (w : World) (hg : Gu w) (HC : Hid (∀ w, Calls Tryz.prog 46 #[.string s, .string ⟨#[42]⟩] w fun e w' => e = .returned (.tuple #[.string A, .string Rs, .bool true]) ∧ Below w.heap.size w w')) (HD : Hid (∀ w, Calls Tryz.prog 46 #[.string A, .string ⟨#[47]⟩] w fun e w' => e = .returned (.tuple #[.string D1, .string D2, .bool false]) ∧ Below w.heap.size w w')) (HN1 : Hid (∀ w, Gu w → Calls Tryz.prog 56 #[.string D1] w fun e w' => e = .returned (.int .i64 N) ∧ Below w.heap.size w w')) (HN2 : Hid (∀ w, Gu w → Calls Tryz.prog 56 #[.string ⟨#[49]⟩] w fun e w' => e = .returned (.int .i64 D) ∧ Below w.heap.size w w')) (hN : ¬ N = 0) (hD : D = 0) :
    Calls Tryz.prog 45 #[.string s] w fun e w' => e = .returned (.tuple #[.agg #[.int .i64 0, .int .i64 0, .int .i64 0, .int .i64 0, .int .i64 0, .int .i64 0, .int .i64 0], .string ⟨#[]⟩, .bool false]) ∧ Below w.heap.size w w' := by
  have t0 : (N == 0) = false := by rw [beq_eq_false_iff_ne]; exact hN
  have t1 : (D == 0) = true := by rw [beq_iff_eq]; exact hD
  clear hN hD
  go_enter Tryz.func45, Tryz.ntmps45
  go_wp2_with fail
  obtain ⟨W, R, hW, hR, hwR, R1, B1⟩ := one_unit w
  have g1 := hg.below ((Below.refl w.heap.size w).alloc (Nat.le_refl _) (Obj.cells #[.int .i64 0, .int .i64 0, .int .i64 0, .int .i64 0, .int .i64 0, .int .i64 0, .int .i64 0] 28))
  rw [← hW] at g1 ⊢
  rw [← hR]
  have HR0 := Lib.hid R1
  have HB0 := Lib.hid B1
  have HG0 := Lib.hid g1
  clear hW hR R1 B1 g1 hg
  refine (HC.out _).mono ?_
  rintro e w1 ⟨rfl, hb⟩
  have HR1 := Lib.hid (HR0.out.keep hb)
  have HB1 := Lib.hid (HB0.out.trans (hb.mono HB0.out.size))
  have HG1 := Lib.hid (HG0.out.below hb)
  clear hb
  go_wp2_with fail
  refine (HD.out _).mono ?_
  rintro e w2 ⟨rfl, hb⟩
  have HR2 := Lib.hid (HR1.out.keep hb)
  have HB2 := Lib.hid (HB1.out.trans (hb.mono HB1.out.size))
  have HG2 := Lib.hid (HG1.out.below hb)
  clear hb
  go_wp2_with fail
  refine (HN1.out _ HG2.out).mono ?_
  rintro e w3 ⟨rfl, hb⟩
  have HR3 := Lib.hid (HR2.out.keep hb)
  have HB3 := Lib.hid (HB2.out.trans (hb.mono HB2.out.size))
  have HG3 := Lib.hid (HG2.out.below hb)
  clear hb
  go_wp2_with fail
  refine (HN2.out _ HG3.out).mono ?_
  rintro e w4 ⟨rfl, hb⟩
  have HR4 := Lib.hid (HR3.out.keep hb)
  have HB4 := Lib.hid (HB3.out.trans (hb.mono HB3.out.size))
  have HG4 := Lib.hid (HG3.out.below hb)
  clear hb
  obtain ⟨r0, r1, r2, r3, r4, r5, r6, rz⟩ := HR4.out
  go_wp2_with fail
  have hs := (HR4.out).set 0 0 0 0 0 0 0
  have y0 : (((((((w4.setCell ⟨R, 0, none⟩ (.int .i64 0)).setCell ⟨R, 1, none⟩ (.int .i64 0)).setCell ⟨R, 2, none⟩ (.int .i64 0)).setCell ⟨R, 3, none⟩ (.int .i64 0)).setCell ⟨R, 4, none⟩ (.int .i64 0)).setCell ⟨R, 5, none⟩ (.int .i64 0)).setCell ⟨R, 6, none⟩ (.int .i64 0)).cell? ⟨R, 0, none⟩ = some (.int .i64 0) := hs.c0
  have y1 : (((((((w4.setCell ⟨R, 0, none⟩ (.int .i64 0)).setCell ⟨R, 1, none⟩ (.int .i64 0)).setCell ⟨R, 2, none⟩ (.int .i64 0)).setCell ⟨R, 3, none⟩ (.int .i64 0)).setCell ⟨R, 4, none⟩ (.int .i64 0)).setCell ⟨R, 5, none⟩ (.int .i64 0)).setCell ⟨R, 6, none⟩ (.int .i64 0)).cell? ⟨R, 1, none⟩ = some (.int .i64 0) := hs.c1
  have y2 : (((((((w4.setCell ⟨R, 0, none⟩ (.int .i64 0)).setCell ⟨R, 1, none⟩ (.int .i64 0)).setCell ⟨R, 2, none⟩ (.int .i64 0)).setCell ⟨R, 3, none⟩ (.int .i64 0)).setCell ⟨R, 4, none⟩ (.int .i64 0)).setCell ⟨R, 5, none⟩ (.int .i64 0)).setCell ⟨R, 6, none⟩ (.int .i64 0)).cell? ⟨R, 2, none⟩ = some (.int .i64 0) := hs.c2
  have y3 : (((((((w4.setCell ⟨R, 0, none⟩ (.int .i64 0)).setCell ⟨R, 1, none⟩ (.int .i64 0)).setCell ⟨R, 2, none⟩ (.int .i64 0)).setCell ⟨R, 3, none⟩ (.int .i64 0)).setCell ⟨R, 4, none⟩ (.int .i64 0)).setCell ⟨R, 5, none⟩ (.int .i64 0)).setCell ⟨R, 6, none⟩ (.int .i64 0)).cell? ⟨R, 3, none⟩ = some (.int .i64 0) := hs.c3
  have y4 : (((((((w4.setCell ⟨R, 0, none⟩ (.int .i64 0)).setCell ⟨R, 1, none⟩ (.int .i64 0)).setCell ⟨R, 2, none⟩ (.int .i64 0)).setCell ⟨R, 3, none⟩ (.int .i64 0)).setCell ⟨R, 4, none⟩ (.int .i64 0)).setCell ⟨R, 5, none⟩ (.int .i64 0)).setCell ⟨R, 6, none⟩ (.int .i64 0)).cell? ⟨R, 4, none⟩ = some (.int .i64 0) := hs.c4
  have y5 : (((((((w4.setCell ⟨R, 0, none⟩ (.int .i64 0)).setCell ⟨R, 1, none⟩ (.int .i64 0)).setCell ⟨R, 2, none⟩ (.int .i64 0)).setCell ⟨R, 3, none⟩ (.int .i64 0)).setCell ⟨R, 4, none⟩ (.int .i64 0)).setCell ⟨R, 5, none⟩ (.int .i64 0)).setCell ⟨R, 6, none⟩ (.int .i64 0)).cell? ⟨R, 5, none⟩ = some (.int .i64 0) := hs.c5
  have y6 : (((((((w4.setCell ⟨R, 0, none⟩ (.int .i64 0)).setCell ⟨R, 1, none⟩ (.int .i64 0)).setCell ⟨R, 2, none⟩ (.int .i64 0)).setCell ⟨R, 3, none⟩ (.int .i64 0)).setCell ⟨R, 4, none⟩ (.int .i64 0)).setCell ⟨R, 5, none⟩ (.int .i64 0)).setCell ⟨R, 6, none⟩ (.int .i64 0)).cell? ⟨R, 6, none⟩ = some (.int .i64 0) := hs.c6
  (try simp only [Exit.inBlock, Exit.then])
  refine bodyPost_ret (by simp [results, Tryz.results45, go_sem, y0, y1, y2, y3, y4, y5, y6]; try rfl) rfl ?_
  exact ⟨rfl, setU_below HB4.out hwR 0 0 0 0 0 0 0⟩

set_option maxRecDepth 100000 in
set_option maxHeartbeats 16000000 in
theorem scale_one (N D G X Y : Int) (s A Rs D1 D2 : ByteArray) (w : World) (hg : Gu w) (HC : Hid (∀ w, Calls Tryz.prog 46 #[.string s, .string ⟨#[42]⟩] w fun e w' => e = .returned (.tuple #[.string A, .string Rs, .bool true]) ∧ Below w.heap.size w w')) (HD : Hid (∀ w, Calls Tryz.prog 46 #[.string A, .string ⟨#[47]⟩] w fun e w' => e = .returned (.tuple #[.string D1, .string D2, .bool false]) ∧ Below w.heap.size w w')) (HN1 : Hid (∀ w, Gu w → Calls Tryz.prog 56 #[.string D1] w fun e w' => e = .returned (.int .i64 N) ∧ Below w.heap.size w w')) (HN2 : Hid (∀ w, Gu w → Calls Tryz.prog 56 #[.string ⟨#[49]⟩] w fun e w' => e = .returned (.int .i64 D) ∧ Below w.heap.size w w')) (hN : 1 ≤ N ∧ N ≤ 100000000000) (hD : 1 ≤ D ∧ D ≤ 100000000000) (HV : Hid (∀ w, Calls Tryz.prog 24 #[.int .i64 N, .int .i64 D] w fun e w' => e = .returned (.int .i64 G) ∧ Below w.heap.size w w')) (hG : 1 ≤ G) (hX : N / G = X) (hY : D / G = Y) (hX2 : 1 ≤ X ∧ X ≤ 100000000000) (hY2 : 1 ≤ Y ∧ Y ≤ 100000000000) :
    Calls Tryz.prog 45 #[.string s] w fun e w' => e = .returned (.tuple #[.agg #[.int .i64 0, .int .i64 0, .int .i64 0, .int .i64 0, .int .i64 X, .int .i64 Y, .int .i64 0], .string Rs, .bool true]) ∧ Below w.heap.size w w' := by
  have t0 : (N == 0) = false := by rw [beq_eq_false_iff_ne]; omega
  have t1 : (D == 0) = false := by rw [beq_eq_false_iff_ne]; omega
  have t2 : (G == 0) = false := by rw [beq_eq_false_iff_ne]; omega
  have j1 : 0 ≤ N := by omega
  have j2 : 0 ≤ D := by omega
  have q1 : IntKind.i64.wrap (N.tdiv G) = X := by rw [Int.tdiv_eq_ediv_of_nonneg (by omega), hX]; exact IntWalk.i64_in _ ⟨by omega, by omega⟩
  have q2 : IntKind.i64.wrap (D.tdiv G) = Y := by rw [Int.tdiv_eq_ediv_of_nonneg (by omega), hY]; exact IntWalk.i64_in _ ⟨by omega, by omega⟩
  have w1 : wrap64 X = X := IntWalk.wrap64_in _ ⟨by omega, by omega⟩
  have w2 : wrap64 Y = Y := IntWalk.wrap64_in _ ⟨by omega, by omega⟩
  have p1 : N.tdiv G = X := by rw [Int.tdiv_eq_ediv_of_nonneg (by omega), hX]
  have p2 : D.tdiv G = Y := by rw [Int.tdiv_eq_ediv_of_nonneg (by omega), hY]
  have j0 : ¬ G = 0 := by omega
  have k1 : IntKind.i64.wrap X = X := IntWalk.i64_in _ ⟨by omega, by omega⟩
  have k2 : IntKind.i64.wrap Y = Y := IntWalk.i64_in _ ⟨by omega, by omega⟩
  clear hN hD hX2 hY2
  go_enter Tryz.func45, Tryz.ntmps45
  go_wp2_with fail
  obtain ⟨W, R, hW, hR, hwR, R1, B1⟩ := one_unit w
  have g1 := hg.below ((Below.refl w.heap.size w).alloc (Nat.le_refl _) (Obj.cells #[.int .i64 0, .int .i64 0, .int .i64 0, .int .i64 0, .int .i64 0, .int .i64 0, .int .i64 0] 28))
  rw [← hW] at g1 ⊢
  rw [← hR]
  have HR0 := Lib.hid R1
  have HB0 := Lib.hid B1
  have HG0 := Lib.hid g1
  clear hW hR R1 B1 g1 hg
  refine (HC.out _).mono ?_
  rintro e w1 ⟨rfl, hb⟩
  have HR1 := Lib.hid (HR0.out.keep hb)
  have HB1 := Lib.hid (HB0.out.trans (hb.mono HB0.out.size))
  have HG1 := Lib.hid (HG0.out.below hb)
  clear hb
  go_wp2_with fail
  refine (HD.out _).mono ?_
  rintro e w2 ⟨rfl, hb⟩
  have HR2 := Lib.hid (HR1.out.keep hb)
  have HB2 := Lib.hid (HB1.out.trans (hb.mono HB1.out.size))
  have HG2 := Lib.hid (HG1.out.below hb)
  clear hb
  go_wp2_with fail
  refine (HN1.out _ HG2.out).mono ?_
  rintro e w3 ⟨rfl, hb⟩
  have HR3 := Lib.hid (HR2.out.keep hb)
  have HB3 := Lib.hid (HB2.out.trans (hb.mono HB2.out.size))
  have HG3 := Lib.hid (HG2.out.below hb)
  clear hb
  go_wp2_with fail
  refine (HN2.out _ HG3.out).mono ?_
  rintro e w4 ⟨rfl, hb⟩
  have HR4 := Lib.hid (HR3.out.keep hb)
  have HB4 := Lib.hid (HB3.out.trans (hb.mono HB3.out.size))
  have HG4 := Lib.hid (HG3.out.below hb)
  clear hb
  go_wp2_with fail
  refine (HV.out _).mono ?_
  rintro e w5 ⟨rfl, hb⟩
  have HR5 := Lib.hid (HR4.out.keep hb)
  have HB5 := Lib.hid (HB4.out.trans (hb.mono HB4.out.size))
  have HG5 := Lib.hid (HG4.out.below hb)
  clear hb
  obtain ⟨r0, r1, r2, r3, r4, r5, r6, rz⟩ := HR5.out
  go_wp2_with fail
  obtain ⟨w6, hw6⟩ : ∃ x, x = w5 := ⟨_, rfl⟩
  rw [← hw6] at HR5 HB5 r0 r1 r2 r3 r4 r5 r6 rz ⊢
  clear hw6
  set_option warningAsError false in go_region_held3 (fun w' => Below w.heap.size w w')
    (first | (with_reducible exact HB5.out) | (with_reducible exact HB5.out.drew) | (with_reducible exact below_chain7 HB5.out hwR) | (with_reducible exact below_chain7 HB5.out.drew hwR) | (with_reducible exact Below.drew (below_chain7 HB5.out hwR)) | go_keep)
    ((fail))
  all_goals
    rename_i hHeld
    clear hHeld
    go_wp2_with fail
    have hs := (HR5.out).set 0 0 0 0 X Y 0
    have y0 : (((((((w6.setCell ⟨R, 0, none⟩ (.int .i64 0)).setCell ⟨R, 1, none⟩ (.int .i64 0)).setCell ⟨R, 2, none⟩ (.int .i64 0)).setCell ⟨R, 3, none⟩ (.int .i64 0)).setCell ⟨R, 4, none⟩ (.int .i64 X)).setCell ⟨R, 5, none⟩ (.int .i64 Y)).setCell ⟨R, 6, none⟩ (.int .i64 0)).cell? ⟨R, 0, none⟩ = some (.int .i64 0) := hs.c0
    have y1 : (((((((w6.setCell ⟨R, 0, none⟩ (.int .i64 0)).setCell ⟨R, 1, none⟩ (.int .i64 0)).setCell ⟨R, 2, none⟩ (.int .i64 0)).setCell ⟨R, 3, none⟩ (.int .i64 0)).setCell ⟨R, 4, none⟩ (.int .i64 X)).setCell ⟨R, 5, none⟩ (.int .i64 Y)).setCell ⟨R, 6, none⟩ (.int .i64 0)).cell? ⟨R, 1, none⟩ = some (.int .i64 0) := hs.c1
    have y2 : (((((((w6.setCell ⟨R, 0, none⟩ (.int .i64 0)).setCell ⟨R, 1, none⟩ (.int .i64 0)).setCell ⟨R, 2, none⟩ (.int .i64 0)).setCell ⟨R, 3, none⟩ (.int .i64 0)).setCell ⟨R, 4, none⟩ (.int .i64 X)).setCell ⟨R, 5, none⟩ (.int .i64 Y)).setCell ⟨R, 6, none⟩ (.int .i64 0)).cell? ⟨R, 2, none⟩ = some (.int .i64 0) := hs.c2
    have y3 : (((((((w6.setCell ⟨R, 0, none⟩ (.int .i64 0)).setCell ⟨R, 1, none⟩ (.int .i64 0)).setCell ⟨R, 2, none⟩ (.int .i64 0)).setCell ⟨R, 3, none⟩ (.int .i64 0)).setCell ⟨R, 4, none⟩ (.int .i64 X)).setCell ⟨R, 5, none⟩ (.int .i64 Y)).setCell ⟨R, 6, none⟩ (.int .i64 0)).cell? ⟨R, 3, none⟩ = some (.int .i64 0) := hs.c3
    have y4 : (((((((w6.setCell ⟨R, 0, none⟩ (.int .i64 0)).setCell ⟨R, 1, none⟩ (.int .i64 0)).setCell ⟨R, 2, none⟩ (.int .i64 0)).setCell ⟨R, 3, none⟩ (.int .i64 0)).setCell ⟨R, 4, none⟩ (.int .i64 X)).setCell ⟨R, 5, none⟩ (.int .i64 Y)).setCell ⟨R, 6, none⟩ (.int .i64 0)).cell? ⟨R, 4, none⟩ = some (.int .i64 X) := hs.c4
    have y5 : (((((((w6.setCell ⟨R, 0, none⟩ (.int .i64 0)).setCell ⟨R, 1, none⟩ (.int .i64 0)).setCell ⟨R, 2, none⟩ (.int .i64 0)).setCell ⟨R, 3, none⟩ (.int .i64 0)).setCell ⟨R, 4, none⟩ (.int .i64 X)).setCell ⟨R, 5, none⟩ (.int .i64 Y)).setCell ⟨R, 6, none⟩ (.int .i64 0)).cell? ⟨R, 5, none⟩ = some (.int .i64 Y) := hs.c5
    have y6 : (((((((w6.setCell ⟨R, 0, none⟩ (.int .i64 0)).setCell ⟨R, 1, none⟩ (.int .i64 0)).setCell ⟨R, 2, none⟩ (.int .i64 0)).setCell ⟨R, 3, none⟩ (.int .i64 0)).setCell ⟨R, 4, none⟩ (.int .i64 X)).setCell ⟨R, 5, none⟩ (.int .i64 Y)).setCell ⟨R, 6, none⟩ (.int .i64 0)).cell? ⟨R, 6, none⟩ = some (.int .i64 0) := hs.c6
    (try simp only [Exit.inBlock, Exit.then])
    refine bodyPost_ret (by simp [results, Tryz.results45, go_sem, y0, y1, y2, y3, y4, y5, y6]; try rfl) rfl ?_
    exact ⟨rfl, (setU_below HB5.out hwR 0 0 0 0 X Y 0).drew⟩

set_option maxHeartbeats 1000000 in
theorem scale_two_bad0 (N D : Int) (s A Rs D1 D2 : ByteArray) (w : World) (hg : Gu w) (HC : Hid (∀ w, Calls Tryz.prog 46 #[.string s, .string ⟨#[42]⟩] w fun e w' => e = .returned (.tuple #[.string A, .string Rs, .bool true]) ∧ Below w.heap.size w w')) (HD : Hid (∀ w, Calls Tryz.prog 46 #[.string A, .string ⟨#[47]⟩] w fun e w' => e = .returned (.tuple #[.string D1, .string D2, .bool true]) ∧ Below w.heap.size w w')) (HN1 : Hid (∀ w, Gu w → Calls Tryz.prog 56 #[.string D1] w fun e w' => e = .returned (.int .i64 N) ∧ Below w.heap.size w w')) (HN2 : Hid (∀ w, Gu w → Calls Tryz.prog 56 #[.string D2] w fun e w' => e = .returned (.int .i64 D) ∧ Below w.heap.size w w')) (hN : N = 0) :
    Calls Tryz.prog 45 #[.string s] w fun e w' => e = .returned (.tuple #[.agg #[.int .i64 0, .int .i64 0, .int .i64 0, .int .i64 0, .int .i64 0, .int .i64 0, .int .i64 0], .string ⟨#[]⟩, .bool false]) ∧ Below w.heap.size w w' := by
  have t0 : (N == 0) = true := by rw [beq_iff_eq]; exact hN
  clear hN
  go_enter Tryz.func45, Tryz.ntmps45
  go_wp2_with fail
  obtain ⟨W, R, hW, hR, hwR, R1, B1⟩ := one_unit w
  have g1 := hg.below ((Below.refl w.heap.size w).alloc (Nat.le_refl _) (Obj.cells #[.int .i64 0, .int .i64 0, .int .i64 0, .int .i64 0, .int .i64 0, .int .i64 0, .int .i64 0] 28))
  rw [← hW] at g1 ⊢
  rw [← hR]
  have HR0 := Lib.hid R1
  have HB0 := Lib.hid B1
  have HG0 := Lib.hid g1
  clear hW hR R1 B1 g1 hg
  refine (HC.out _).mono ?_
  rintro e w1 ⟨rfl, hb⟩
  have HR1 := Lib.hid (HR0.out.keep hb)
  have HB1 := Lib.hid (HB0.out.trans (hb.mono HB0.out.size))
  have HG1 := Lib.hid (HG0.out.below hb)
  clear hb
  go_wp2_with fail
  refine (HD.out _).mono ?_
  rintro e w2 ⟨rfl, hb⟩
  have HR2 := Lib.hid (HR1.out.keep hb)
  have HB2 := Lib.hid (HB1.out.trans (hb.mono HB1.out.size))
  have HG2 := Lib.hid (HG1.out.below hb)
  clear hb
  go_wp2_with fail
  refine (HN1.out _ HG2.out).mono ?_
  rintro e w3 ⟨rfl, hb⟩
  have HR3 := Lib.hid (HR2.out.keep hb)
  have HB3 := Lib.hid (HB2.out.trans (hb.mono HB2.out.size))
  have HG3 := Lib.hid (HG2.out.below hb)
  clear hb
  go_wp2_with fail
  refine (HN2.out _ HG3.out).mono ?_
  rintro e w4 ⟨rfl, hb⟩
  have HR4 := Lib.hid (HR3.out.keep hb)
  have HB4 := Lib.hid (HB3.out.trans (hb.mono HB3.out.size))
  have HG4 := Lib.hid (HG3.out.below hb)
  clear hb
  obtain ⟨r0, r1, r2, r3, r4, r5, r6, rz⟩ := HR4.out
  go_wp2_with fail
  have hs := (HR4.out).set 0 0 0 0 0 0 0
  have y0 : (((((((w4.setCell ⟨R, 0, none⟩ (.int .i64 0)).setCell ⟨R, 1, none⟩ (.int .i64 0)).setCell ⟨R, 2, none⟩ (.int .i64 0)).setCell ⟨R, 3, none⟩ (.int .i64 0)).setCell ⟨R, 4, none⟩ (.int .i64 0)).setCell ⟨R, 5, none⟩ (.int .i64 0)).setCell ⟨R, 6, none⟩ (.int .i64 0)).cell? ⟨R, 0, none⟩ = some (.int .i64 0) := hs.c0
  have y1 : (((((((w4.setCell ⟨R, 0, none⟩ (.int .i64 0)).setCell ⟨R, 1, none⟩ (.int .i64 0)).setCell ⟨R, 2, none⟩ (.int .i64 0)).setCell ⟨R, 3, none⟩ (.int .i64 0)).setCell ⟨R, 4, none⟩ (.int .i64 0)).setCell ⟨R, 5, none⟩ (.int .i64 0)).setCell ⟨R, 6, none⟩ (.int .i64 0)).cell? ⟨R, 1, none⟩ = some (.int .i64 0) := hs.c1
  have y2 : (((((((w4.setCell ⟨R, 0, none⟩ (.int .i64 0)).setCell ⟨R, 1, none⟩ (.int .i64 0)).setCell ⟨R, 2, none⟩ (.int .i64 0)).setCell ⟨R, 3, none⟩ (.int .i64 0)).setCell ⟨R, 4, none⟩ (.int .i64 0)).setCell ⟨R, 5, none⟩ (.int .i64 0)).setCell ⟨R, 6, none⟩ (.int .i64 0)).cell? ⟨R, 2, none⟩ = some (.int .i64 0) := hs.c2
  have y3 : (((((((w4.setCell ⟨R, 0, none⟩ (.int .i64 0)).setCell ⟨R, 1, none⟩ (.int .i64 0)).setCell ⟨R, 2, none⟩ (.int .i64 0)).setCell ⟨R, 3, none⟩ (.int .i64 0)).setCell ⟨R, 4, none⟩ (.int .i64 0)).setCell ⟨R, 5, none⟩ (.int .i64 0)).setCell ⟨R, 6, none⟩ (.int .i64 0)).cell? ⟨R, 3, none⟩ = some (.int .i64 0) := hs.c3
  have y4 : (((((((w4.setCell ⟨R, 0, none⟩ (.int .i64 0)).setCell ⟨R, 1, none⟩ (.int .i64 0)).setCell ⟨R, 2, none⟩ (.int .i64 0)).setCell ⟨R, 3, none⟩ (.int .i64 0)).setCell ⟨R, 4, none⟩ (.int .i64 0)).setCell ⟨R, 5, none⟩ (.int .i64 0)).setCell ⟨R, 6, none⟩ (.int .i64 0)).cell? ⟨R, 4, none⟩ = some (.int .i64 0) := hs.c4
  have y5 : (((((((w4.setCell ⟨R, 0, none⟩ (.int .i64 0)).setCell ⟨R, 1, none⟩ (.int .i64 0)).setCell ⟨R, 2, none⟩ (.int .i64 0)).setCell ⟨R, 3, none⟩ (.int .i64 0)).setCell ⟨R, 4, none⟩ (.int .i64 0)).setCell ⟨R, 5, none⟩ (.int .i64 0)).setCell ⟨R, 6, none⟩ (.int .i64 0)).cell? ⟨R, 5, none⟩ = some (.int .i64 0) := hs.c5
  have y6 : (((((((w4.setCell ⟨R, 0, none⟩ (.int .i64 0)).setCell ⟨R, 1, none⟩ (.int .i64 0)).setCell ⟨R, 2, none⟩ (.int .i64 0)).setCell ⟨R, 3, none⟩ (.int .i64 0)).setCell ⟨R, 4, none⟩ (.int .i64 0)).setCell ⟨R, 5, none⟩ (.int .i64 0)).setCell ⟨R, 6, none⟩ (.int .i64 0)).cell? ⟨R, 6, none⟩ = some (.int .i64 0) := hs.c6
  (try simp only [Exit.inBlock, Exit.then])
  refine bodyPost_ret (by simp [results, Tryz.results45, go_sem, y0, y1, y2, y3, y4, y5, y6]; try rfl) rfl ?_
  exact ⟨rfl, setU_below HB4.out hwR 0 0 0 0 0 0 0⟩

set_option maxHeartbeats 1000000 in
theorem scale_two_bad1 (N D : Int) (s A Rs D1 D2 : ByteArray) (w : World) (hg : Gu w) (HC : Hid (∀ w, Calls Tryz.prog 46 #[.string s, .string ⟨#[42]⟩] w fun e w' => e = .returned (.tuple #[.string A, .string Rs, .bool true]) ∧ Below w.heap.size w w')) (HD : Hid (∀ w, Calls Tryz.prog 46 #[.string A, .string ⟨#[47]⟩] w fun e w' => e = .returned (.tuple #[.string D1, .string D2, .bool true]) ∧ Below w.heap.size w w')) (HN1 : Hid (∀ w, Gu w → Calls Tryz.prog 56 #[.string D1] w fun e w' => e = .returned (.int .i64 N) ∧ Below w.heap.size w w')) (HN2 : Hid (∀ w, Gu w → Calls Tryz.prog 56 #[.string D2] w fun e w' => e = .returned (.int .i64 D) ∧ Below w.heap.size w w')) (hN : ¬ N = 0) (hD : D = 0) :
    Calls Tryz.prog 45 #[.string s] w fun e w' => e = .returned (.tuple #[.agg #[.int .i64 0, .int .i64 0, .int .i64 0, .int .i64 0, .int .i64 0, .int .i64 0, .int .i64 0], .string ⟨#[]⟩, .bool false]) ∧ Below w.heap.size w w' := by
  have t0 : (N == 0) = false := by rw [beq_eq_false_iff_ne]; exact hN
  have t1 : (D == 0) = true := by rw [beq_iff_eq]; exact hD
  clear hN hD
  go_enter Tryz.func45, Tryz.ntmps45
  go_wp2_with fail
  obtain ⟨W, R, hW, hR, hwR, R1, B1⟩ := one_unit w
  have g1 := hg.below ((Below.refl w.heap.size w).alloc (Nat.le_refl _) (Obj.cells #[.int .i64 0, .int .i64 0, .int .i64 0, .int .i64 0, .int .i64 0, .int .i64 0, .int .i64 0] 28))
  rw [← hW] at g1 ⊢
  rw [← hR]
  have HR0 := Lib.hid R1
  have HB0 := Lib.hid B1
  have HG0 := Lib.hid g1
  clear hW hR R1 B1 g1 hg
  refine (HC.out _).mono ?_
  rintro e w1 ⟨rfl, hb⟩
  have HR1 := Lib.hid (HR0.out.keep hb)
  have HB1 := Lib.hid (HB0.out.trans (hb.mono HB0.out.size))
  have HG1 := Lib.hid (HG0.out.below hb)
  clear hb
  go_wp2_with fail
  refine (HD.out _).mono ?_
  rintro e w2 ⟨rfl, hb⟩
  have HR2 := Lib.hid (HR1.out.keep hb)
  have HB2 := Lib.hid (HB1.out.trans (hb.mono HB1.out.size))
  have HG2 := Lib.hid (HG1.out.below hb)
  clear hb
  go_wp2_with fail
  refine (HN1.out _ HG2.out).mono ?_
  rintro e w3 ⟨rfl, hb⟩
  have HR3 := Lib.hid (HR2.out.keep hb)
  have HB3 := Lib.hid (HB2.out.trans (hb.mono HB2.out.size))
  have HG3 := Lib.hid (HG2.out.below hb)
  clear hb
  go_wp2_with fail
  refine (HN2.out _ HG3.out).mono ?_
  rintro e w4 ⟨rfl, hb⟩
  have HR4 := Lib.hid (HR3.out.keep hb)
  have HB4 := Lib.hid (HB3.out.trans (hb.mono HB3.out.size))
  have HG4 := Lib.hid (HG3.out.below hb)
  clear hb
  obtain ⟨r0, r1, r2, r3, r4, r5, r6, rz⟩ := HR4.out
  go_wp2_with fail
  have hs := (HR4.out).set 0 0 0 0 0 0 0
  have y0 : (((((((w4.setCell ⟨R, 0, none⟩ (.int .i64 0)).setCell ⟨R, 1, none⟩ (.int .i64 0)).setCell ⟨R, 2, none⟩ (.int .i64 0)).setCell ⟨R, 3, none⟩ (.int .i64 0)).setCell ⟨R, 4, none⟩ (.int .i64 0)).setCell ⟨R, 5, none⟩ (.int .i64 0)).setCell ⟨R, 6, none⟩ (.int .i64 0)).cell? ⟨R, 0, none⟩ = some (.int .i64 0) := hs.c0
  have y1 : (((((((w4.setCell ⟨R, 0, none⟩ (.int .i64 0)).setCell ⟨R, 1, none⟩ (.int .i64 0)).setCell ⟨R, 2, none⟩ (.int .i64 0)).setCell ⟨R, 3, none⟩ (.int .i64 0)).setCell ⟨R, 4, none⟩ (.int .i64 0)).setCell ⟨R, 5, none⟩ (.int .i64 0)).setCell ⟨R, 6, none⟩ (.int .i64 0)).cell? ⟨R, 1, none⟩ = some (.int .i64 0) := hs.c1
  have y2 : (((((((w4.setCell ⟨R, 0, none⟩ (.int .i64 0)).setCell ⟨R, 1, none⟩ (.int .i64 0)).setCell ⟨R, 2, none⟩ (.int .i64 0)).setCell ⟨R, 3, none⟩ (.int .i64 0)).setCell ⟨R, 4, none⟩ (.int .i64 0)).setCell ⟨R, 5, none⟩ (.int .i64 0)).setCell ⟨R, 6, none⟩ (.int .i64 0)).cell? ⟨R, 2, none⟩ = some (.int .i64 0) := hs.c2
  have y3 : (((((((w4.setCell ⟨R, 0, none⟩ (.int .i64 0)).setCell ⟨R, 1, none⟩ (.int .i64 0)).setCell ⟨R, 2, none⟩ (.int .i64 0)).setCell ⟨R, 3, none⟩ (.int .i64 0)).setCell ⟨R, 4, none⟩ (.int .i64 0)).setCell ⟨R, 5, none⟩ (.int .i64 0)).setCell ⟨R, 6, none⟩ (.int .i64 0)).cell? ⟨R, 3, none⟩ = some (.int .i64 0) := hs.c3
  have y4 : (((((((w4.setCell ⟨R, 0, none⟩ (.int .i64 0)).setCell ⟨R, 1, none⟩ (.int .i64 0)).setCell ⟨R, 2, none⟩ (.int .i64 0)).setCell ⟨R, 3, none⟩ (.int .i64 0)).setCell ⟨R, 4, none⟩ (.int .i64 0)).setCell ⟨R, 5, none⟩ (.int .i64 0)).setCell ⟨R, 6, none⟩ (.int .i64 0)).cell? ⟨R, 4, none⟩ = some (.int .i64 0) := hs.c4
  have y5 : (((((((w4.setCell ⟨R, 0, none⟩ (.int .i64 0)).setCell ⟨R, 1, none⟩ (.int .i64 0)).setCell ⟨R, 2, none⟩ (.int .i64 0)).setCell ⟨R, 3, none⟩ (.int .i64 0)).setCell ⟨R, 4, none⟩ (.int .i64 0)).setCell ⟨R, 5, none⟩ (.int .i64 0)).setCell ⟨R, 6, none⟩ (.int .i64 0)).cell? ⟨R, 5, none⟩ = some (.int .i64 0) := hs.c5
  have y6 : (((((((w4.setCell ⟨R, 0, none⟩ (.int .i64 0)).setCell ⟨R, 1, none⟩ (.int .i64 0)).setCell ⟨R, 2, none⟩ (.int .i64 0)).setCell ⟨R, 3, none⟩ (.int .i64 0)).setCell ⟨R, 4, none⟩ (.int .i64 0)).setCell ⟨R, 5, none⟩ (.int .i64 0)).setCell ⟨R, 6, none⟩ (.int .i64 0)).cell? ⟨R, 6, none⟩ = some (.int .i64 0) := hs.c6
  (try simp only [Exit.inBlock, Exit.then])
  refine bodyPost_ret (by simp [results, Tryz.results45, go_sem, y0, y1, y2, y3, y4, y5, y6]; try rfl) rfl ?_
  exact ⟨rfl, setU_below HB4.out hwR 0 0 0 0 0 0 0⟩

set_option maxRecDepth 100000 in
set_option maxHeartbeats 16000000 in
theorem scale_two (N D G X Y : Int) (s A Rs D1 D2 : ByteArray) (w : World) (hg : Gu w) (HC : Hid (∀ w, Calls Tryz.prog 46 #[.string s, .string ⟨#[42]⟩] w fun e w' => e = .returned (.tuple #[.string A, .string Rs, .bool true]) ∧ Below w.heap.size w w')) (HD : Hid (∀ w, Calls Tryz.prog 46 #[.string A, .string ⟨#[47]⟩] w fun e w' => e = .returned (.tuple #[.string D1, .string D2, .bool true]) ∧ Below w.heap.size w w')) (HN1 : Hid (∀ w, Gu w → Calls Tryz.prog 56 #[.string D1] w fun e w' => e = .returned (.int .i64 N) ∧ Below w.heap.size w w')) (HN2 : Hid (∀ w, Gu w → Calls Tryz.prog 56 #[.string D2] w fun e w' => e = .returned (.int .i64 D) ∧ Below w.heap.size w w')) (hN : 1 ≤ N ∧ N ≤ 100000000000) (hD : 1 ≤ D ∧ D ≤ 100000000000) (HV : Hid (∀ w, Calls Tryz.prog 24 #[.int .i64 N, .int .i64 D] w fun e w' => e = .returned (.int .i64 G) ∧ Below w.heap.size w w')) (hG : 1 ≤ G) (hX : N / G = X) (hY : D / G = Y) (hX2 : 1 ≤ X ∧ X ≤ 100000000000) (hY2 : 1 ≤ Y ∧ Y ≤ 100000000000) :
    Calls Tryz.prog 45 #[.string s] w fun e w' => e = .returned (.tuple #[.agg #[.int .i64 0, .int .i64 0, .int .i64 0, .int .i64 0, .int .i64 X, .int .i64 Y, .int .i64 0], .string Rs, .bool true]) ∧ Below w.heap.size w w' := by
  have t0 : (N == 0) = false := by rw [beq_eq_false_iff_ne]; omega
  have t1 : (D == 0) = false := by rw [beq_eq_false_iff_ne]; omega
  have t2 : (G == 0) = false := by rw [beq_eq_false_iff_ne]; omega
  have j1 : 0 ≤ N := by omega
  have j2 : 0 ≤ D := by omega
  have q1 : IntKind.i64.wrap (N.tdiv G) = X := by rw [Int.tdiv_eq_ediv_of_nonneg (by omega), hX]; exact IntWalk.i64_in _ ⟨by omega, by omega⟩
  have q2 : IntKind.i64.wrap (D.tdiv G) = Y := by rw [Int.tdiv_eq_ediv_of_nonneg (by omega), hY]; exact IntWalk.i64_in _ ⟨by omega, by omega⟩
  have w1 : wrap64 X = X := IntWalk.wrap64_in _ ⟨by omega, by omega⟩
  have w2 : wrap64 Y = Y := IntWalk.wrap64_in _ ⟨by omega, by omega⟩
  have p1 : N.tdiv G = X := by rw [Int.tdiv_eq_ediv_of_nonneg (by omega), hX]
  have p2 : D.tdiv G = Y := by rw [Int.tdiv_eq_ediv_of_nonneg (by omega), hY]
  have j0 : ¬ G = 0 := by omega
  have k1 : IntKind.i64.wrap X = X := IntWalk.i64_in _ ⟨by omega, by omega⟩
  have k2 : IntKind.i64.wrap Y = Y := IntWalk.i64_in _ ⟨by omega, by omega⟩
  clear hN hD hX2 hY2
  go_enter Tryz.func45, Tryz.ntmps45
  go_wp2_with fail
  obtain ⟨W, R, hW, hR, hwR, R1, B1⟩ := one_unit w
  have g1 := hg.below ((Below.refl w.heap.size w).alloc (Nat.le_refl _) (Obj.cells #[.int .i64 0, .int .i64 0, .int .i64 0, .int .i64 0, .int .i64 0, .int .i64 0, .int .i64 0] 28))
  rw [← hW] at g1 ⊢
  rw [← hR]
  have HR0 := Lib.hid R1
  have HB0 := Lib.hid B1
  have HG0 := Lib.hid g1
  clear hW hR R1 B1 g1 hg
  refine (HC.out _).mono ?_
  rintro e w1 ⟨rfl, hb⟩
  have HR1 := Lib.hid (HR0.out.keep hb)
  have HB1 := Lib.hid (HB0.out.trans (hb.mono HB0.out.size))
  have HG1 := Lib.hid (HG0.out.below hb)
  clear hb
  go_wp2_with fail
  refine (HD.out _).mono ?_
  rintro e w2 ⟨rfl, hb⟩
  have HR2 := Lib.hid (HR1.out.keep hb)
  have HB2 := Lib.hid (HB1.out.trans (hb.mono HB1.out.size))
  have HG2 := Lib.hid (HG1.out.below hb)
  clear hb
  go_wp2_with fail
  refine (HN1.out _ HG2.out).mono ?_
  rintro e w3 ⟨rfl, hb⟩
  have HR3 := Lib.hid (HR2.out.keep hb)
  have HB3 := Lib.hid (HB2.out.trans (hb.mono HB2.out.size))
  have HG3 := Lib.hid (HG2.out.below hb)
  clear hb
  go_wp2_with fail
  refine (HN2.out _ HG3.out).mono ?_
  rintro e w4 ⟨rfl, hb⟩
  have HR4 := Lib.hid (HR3.out.keep hb)
  have HB4 := Lib.hid (HB3.out.trans (hb.mono HB3.out.size))
  have HG4 := Lib.hid (HG3.out.below hb)
  clear hb
  go_wp2_with fail
  refine (HV.out _).mono ?_
  rintro e w5 ⟨rfl, hb⟩
  have HR5 := Lib.hid (HR4.out.keep hb)
  have HB5 := Lib.hid (HB4.out.trans (hb.mono HB4.out.size))
  have HG5 := Lib.hid (HG4.out.below hb)
  clear hb
  obtain ⟨r0, r1, r2, r3, r4, r5, r6, rz⟩ := HR5.out
  go_wp2_with fail
  obtain ⟨w6, hw6⟩ : ∃ x, x = w5 := ⟨_, rfl⟩
  rw [← hw6] at HR5 HB5 r0 r1 r2 r3 r4 r5 r6 rz ⊢
  clear hw6
  set_option warningAsError false in go_region_held3 (fun w' => Below w.heap.size w w')
    (first | (with_reducible exact HB5.out) | (with_reducible exact HB5.out.drew) | (with_reducible exact below_chain7 HB5.out hwR) | (with_reducible exact below_chain7 HB5.out.drew hwR) | (with_reducible exact Below.drew (below_chain7 HB5.out hwR)) | go_keep)
    ((fail))
  all_goals
    rename_i hHeld
    clear hHeld
    go_wp2_with fail
    have hs := (HR5.out).set 0 0 0 0 X Y 0
    have y0 : (((((((w6.setCell ⟨R, 0, none⟩ (.int .i64 0)).setCell ⟨R, 1, none⟩ (.int .i64 0)).setCell ⟨R, 2, none⟩ (.int .i64 0)).setCell ⟨R, 3, none⟩ (.int .i64 0)).setCell ⟨R, 4, none⟩ (.int .i64 X)).setCell ⟨R, 5, none⟩ (.int .i64 Y)).setCell ⟨R, 6, none⟩ (.int .i64 0)).cell? ⟨R, 0, none⟩ = some (.int .i64 0) := hs.c0
    have y1 : (((((((w6.setCell ⟨R, 0, none⟩ (.int .i64 0)).setCell ⟨R, 1, none⟩ (.int .i64 0)).setCell ⟨R, 2, none⟩ (.int .i64 0)).setCell ⟨R, 3, none⟩ (.int .i64 0)).setCell ⟨R, 4, none⟩ (.int .i64 X)).setCell ⟨R, 5, none⟩ (.int .i64 Y)).setCell ⟨R, 6, none⟩ (.int .i64 0)).cell? ⟨R, 1, none⟩ = some (.int .i64 0) := hs.c1
    have y2 : (((((((w6.setCell ⟨R, 0, none⟩ (.int .i64 0)).setCell ⟨R, 1, none⟩ (.int .i64 0)).setCell ⟨R, 2, none⟩ (.int .i64 0)).setCell ⟨R, 3, none⟩ (.int .i64 0)).setCell ⟨R, 4, none⟩ (.int .i64 X)).setCell ⟨R, 5, none⟩ (.int .i64 Y)).setCell ⟨R, 6, none⟩ (.int .i64 0)).cell? ⟨R, 2, none⟩ = some (.int .i64 0) := hs.c2
    have y3 : (((((((w6.setCell ⟨R, 0, none⟩ (.int .i64 0)).setCell ⟨R, 1, none⟩ (.int .i64 0)).setCell ⟨R, 2, none⟩ (.int .i64 0)).setCell ⟨R, 3, none⟩ (.int .i64 0)).setCell ⟨R, 4, none⟩ (.int .i64 X)).setCell ⟨R, 5, none⟩ (.int .i64 Y)).setCell ⟨R, 6, none⟩ (.int .i64 0)).cell? ⟨R, 3, none⟩ = some (.int .i64 0) := hs.c3
    have y4 : (((((((w6.setCell ⟨R, 0, none⟩ (.int .i64 0)).setCell ⟨R, 1, none⟩ (.int .i64 0)).setCell ⟨R, 2, none⟩ (.int .i64 0)).setCell ⟨R, 3, none⟩ (.int .i64 0)).setCell ⟨R, 4, none⟩ (.int .i64 X)).setCell ⟨R, 5, none⟩ (.int .i64 Y)).setCell ⟨R, 6, none⟩ (.int .i64 0)).cell? ⟨R, 4, none⟩ = some (.int .i64 X) := hs.c4
    have y5 : (((((((w6.setCell ⟨R, 0, none⟩ (.int .i64 0)).setCell ⟨R, 1, none⟩ (.int .i64 0)).setCell ⟨R, 2, none⟩ (.int .i64 0)).setCell ⟨R, 3, none⟩ (.int .i64 0)).setCell ⟨R, 4, none⟩ (.int .i64 X)).setCell ⟨R, 5, none⟩ (.int .i64 Y)).setCell ⟨R, 6, none⟩ (.int .i64 0)).cell? ⟨R, 5, none⟩ = some (.int .i64 Y) := hs.c5
    have y6 : (((((((w6.setCell ⟨R, 0, none⟩ (.int .i64 0)).setCell ⟨R, 1, none⟩ (.int .i64 0)).setCell ⟨R, 2, none⟩ (.int .i64 0)).setCell ⟨R, 3, none⟩ (.int .i64 0)).setCell ⟨R, 4, none⟩ (.int .i64 X)).setCell ⟨R, 5, none⟩ (.int .i64 Y)).setCell ⟨R, 6, none⟩ (.int .i64 0)).cell? ⟨R, 6, none⟩ = some (.int .i64 0) := hs.c6
    (try simp only [Exit.inBlock, Exit.then])
    refine bodyPost_ret (by simp [results, Tryz.results45, go_sem, y0, y1, y2, y3, y4, y5, y6]; try rfl) rfl ?_
    exact ⟨rfl, (setU_below HB5.out hwR 0 0 0 0 X Y 0).drew⟩


/-- the scale that a text begins with, and what follows -/
def below1 (d : List UInt8 × List UInt8 × Bool) : List UInt8 := if d.2.2 = true then d.2.1 else [49]
def cutScaleL (l : List UInt8) : UnitD × List UInt8 × Bool :=
  if (Lib.cut l [42]).2.2 = true then
    (if numI (Lib.cut (Lib.cut l [42]).1 [47]).1 = 0 ∨ numI (below1 (Lib.cut (Lib.cut l [42]).1 [47])) = 0 then (zeroU, [], false)
     else (⟨0, 0, 0, 0, numI (Lib.cut (Lib.cut l [42]).1 [47]).1 / gI (numI (Lib.cut (Lib.cut l [42]).1 [47]).1) (numI (below1 (Lib.cut (Lib.cut l [42]).1 [47]))), numI (below1 (Lib.cut (Lib.cut l [42]).1 [47])) / gI (numI (Lib.cut (Lib.cut l [42]).1 [47]).1) (numI (below1 (Lib.cut (Lib.cut l [42]).1 [47]))), 0⟩, (Lib.cut l [42]).2.1, true))
  else (⟨0, 0, 0, 0, 1, 1, 0⟩, l, true)
theorem numI_range (l : List UInt8) : numI l = 0 ∨ (1 ≤ numI l ∧ numI l ≤ 100000000000) := by
  unfold numI
  split
  · rename_i v hv
    by_cases h : inScaleB v = true ∧ Lib.itoa v = l
    · rw [if_pos h]; exact .inr ((inScale_iff v).1 h.1)
    · rw [if_neg h]; exact .inl rfl
  · exact .inl rfl
theorem cut_le (l : List UInt8) (d : UInt8) : (Lib.cut l [d]).1.length ≤ l.length ∧ (Lib.cut l [d]).2.1.length ≤ l.length := by
  unfold Lib.cut
  split
  · simp only [List.length_take, List.length_drop]; omega
  · simp

theorem cutScale_any (s : ByteArray) (w : World) (hs : s.size ≤ 100) (hg : Gu w) :
    Calls Tryz.prog 45 #[.string s] w fun e w' => e = .returned (.tuple #[unitV (cutScaleL s.data.toList).1, .string ⟨(cutScaleL s.data.toList).2.1.toArray⟩, .bool (cutScaleL s.data.toList).2.2]) ∧ Below w.heap.size w w' := by
  have hl : s.data.toList.length ≤ 100 := by rw [← Lib.size_eq]; exact hs
  have l1 := (cut_le s.data.toList 42).1
  have l2 := cut_le (Lib.cut s.data.toList [42]).1 47
  have hc := fun w => cut_one s 42 w (by omega)
  have hd := fun w => cut_one ⟨(Lib.cut s.data.toList [42]).1.toArray⟩ 47 w (by rw [size_mk]; omega)
  have hn := fun w hg => readNumber_any ⟨(Lib.cut (Lib.cut s.data.toList [42]).1 [47]).1.toArray⟩ w (by rw [size_mk]; omega) hg
  unfold cutScaleL
  cases hf : (Lib.cut s.data.toList [42]).2.2
  · rw [if_neg (by simp)]
    rw [hf] at hc
    exact scale_none s _ _ w hg (Lib.hid hc)
  · rw [if_pos rfl]
    rw [hf] at hc
    have r1 := numI_range (Lib.cut (Lib.cut s.data.toList [42]).1 [47]).1
    have r2 := numI_range (below1 (Lib.cut (Lib.cut s.data.toList [42]).1 [47]))
    cases hv : (Lib.cut (Lib.cut s.data.toList [42]).1 [47]).2.2
    · have hbl : below1 (Lib.cut (Lib.cut s.data.toList [42]).1 [47]) = [49] := by unfold below1; rw [if_neg (by rw [hv]; simp)]
      have hd : ∀ w, Calls Tryz.prog 46 #[.string ⟨(Lib.cut s.data.toList [42]).1.toArray⟩, .string ⟨#[47]⟩] w fun e w' => e = .returned (.tuple #[.string ⟨(Lib.cut (Lib.cut s.data.toList [42]).1 [47]).1.toArray⟩, .string ⟨(Lib.cut (Lib.cut s.data.toList [42]).1 [47]).2.1.toArray⟩, .bool false]) ∧ Below w.heap.size w w' := fun w => by have := hd w; rw [← hv]; exact this
      have hm : ∀ w, Gu w → _ := fun w hg => readNumber_any ⟨#[49]⟩ w (by decide) hg
      rw [hbl] at r2 ⊢
      by_cases h1 : numI (Lib.cut (Lib.cut s.data.toList [42]).1 [47]).1 = 0
      · rw [if_pos (.inl h1)]
        exact scale_one_bad0 _ _ s _ _ _ _ w hg (Lib.hid hc) (Lib.hid hd) (Lib.hid hn) (Lib.hid hm) h1
      · by_cases h2 : numI [49] = 0
        · rw [if_pos (.inr h2)]
          exact scale_one_bad1 _ _ s _ _ _ _ w hg (Lib.hid hc) (Lib.hid hd) (Lib.hid hn) (Lib.hid hm) h1 h2
        · rw [if_neg (fun h => h.elim h1 h2)]
          have b1 := r1.resolve_left h1
          have b2 := r2.resolve_left h2
          obtain ⟨g1, ⟨g2, g3⟩, g4, g5⟩ := gI_facts b1.1 b2.1
          exact scale_one _ _ _ _ _ s _ _ _ _ w hg (Lib.hid hc) (Lib.hid hd) (Lib.hid hn) (Lib.hid hm) b1 b2 (Lib.hid fun w => divisor_int _ _ w ((inScale_iff _).2 b1) ((inScale_iff _).2 b2)) g1 rfl rfl ⟨g2, Int.le_trans g3 b1.2⟩ ⟨g4, Int.le_trans g5 b2.2⟩
    · have hbl : below1 (Lib.cut (Lib.cut s.data.toList [42]).1 [47]) = (Lib.cut (Lib.cut s.data.toList [42]).1 [47]).2.1 := by unfold below1; rw [if_pos hv]
      have hd : ∀ w, Calls Tryz.prog 46 #[.string ⟨(Lib.cut s.data.toList [42]).1.toArray⟩, .string ⟨#[47]⟩] w fun e w' => e = .returned (.tuple #[.string ⟨(Lib.cut (Lib.cut s.data.toList [42]).1 [47]).1.toArray⟩, .string ⟨(Lib.cut (Lib.cut s.data.toList [42]).1 [47]).2.1.toArray⟩, .bool true]) ∧ Below w.heap.size w w' := fun w => by have := hd w; rw [← hv]; exact this
      have hm := fun w hg => readNumber_any ⟨(Lib.cut (Lib.cut s.data.toList [42]).1 [47]).2.1.toArray⟩ w (by rw [size_mk]; omega) hg
      rw [hbl] at r2 ⊢
      by_cases h1 : numI (Lib.cut (Lib.cut s.data.toList [42]).1 [47]).1 = 0
      · rw [if_pos (.inl h1)]
        exact scale_two_bad0 _ _ s _ _ _ _ w hg (Lib.hid hc) (Lib.hid hd) (Lib.hid hn) (Lib.hid hm) h1
      · by_cases h2 : numI (Lib.cut (Lib.cut s.data.toList [42]).1 [47]).2.1 = 0
        · rw [if_pos (.inr h2)]
          exact scale_two_bad1 _ _ s _ _ _ _ w hg (Lib.hid hc) (Lib.hid hd) (Lib.hid hn) (Lib.hid hm) h1 h2
        · rw [if_neg (fun h => h.elim h1 h2)]
          have b1 := r1.resolve_left h1
          have b2 := r2.resolve_left h2
          obtain ⟨g1, ⟨g2, g3⟩, g4, g5⟩ := gI_facts b1.1 b2.1
          exact scale_two _ _ _ _ _ s _ _ _ _ w hg (Lib.hid hc) (Lib.hid hd) (Lib.hid hn) (Lib.hid hm) b1 b2 (Lib.hid fun w => divisor_int _ _ w ((inScale_iff _).2 b1) ((inScale_iff _).2 b2)) g1 rfl rfl ⟨g2, Int.le_trans g3 b1.2⟩ ⟨g4, Int.le_trans g5 b2.2⟩
end Go.Proofs.YtlahoohgbfjciaaGreatDoor
