/- The contract of units.unitOf. -/
import Derived.Test.YtlahoohgbfjciaaGreatDoorUo
import Derived.Test.YtlahoohgbfjciaaGreatDoorUi
import Derived.Test.YtlahoohgbfjciaaGreatDoorUn
namespace Go.Proofs.YtlahoohgbfjciaaGreatDoor
open Go.RowKit Go.Shelf

theorem one_unit (w : World) : ∃ (W : World) (R : Nat), W = w.alloc (Obj.cells #[.int .i64 0, .int .i64 0, .int .i64 0, .int .i64 0, .int .i64 0, .int .i64 0, .int .i64 0] 28) ∧ R = w.heap.size ∧ w.heap.size ≤ R ∧ UnitAt W R 0 0 0 0 0 0 0 ∧ Below w.heap.size w W :=
  ⟨_, _, rfl, rfl, Nat.le_refl _, unit_fresh w 0 0 0 0 0 0 0, (Below.refl _ _).alloc (Nat.le_refl _) _⟩
def rowAt (k : Nat) : ByteArray × UnitD := rowsL.getD k (⟨#[]⟩, zeroU)
def rowC (r : ByteArray × UnitD) : Array Value := #[.string r.1, .int .i64 r.2.e0, .int .i64 r.2.e1, .int .i64 r.2.e2, .int .i64 r.2.e3, .int .i64 r.2.n, .int .i64 r.2.d, .int .i64 r.2.o]
theorem idx_row_0 : tableC.toArray.extract (0 * 8) (0 * 8 + 8) = rowC (rowAt 0) := by kernel_rfl
theorem idx_row_1 : tableC.toArray.extract (1 * 8) (1 * 8 + 8) = rowC (rowAt 1) := by kernel_rfl
theorem idx_row_2 : tableC.toArray.extract (2 * 8) (2 * 8 + 8) = rowC (rowAt 2) := by kernel_rfl
theorem idx_row_3 : tableC.toArray.extract (3 * 8) (3 * 8 + 8) = rowC (rowAt 3) := by kernel_rfl
theorem idx_row_4 : tableC.toArray.extract (4 * 8) (4 * 8 + 8) = rowC (rowAt 4) := by kernel_rfl
theorem idx_row_5 : tableC.toArray.extract (5 * 8) (5 * 8 + 8) = rowC (rowAt 5) := by kernel_rfl
theorem idx_row_6 : tableC.toArray.extract (6 * 8) (6 * 8 + 8) = rowC (rowAt 6) := by kernel_rfl
theorem idx_row_7 : tableC.toArray.extract (7 * 8) (7 * 8 + 8) = rowC (rowAt 7) := by kernel_rfl
theorem idx_row_8 : tableC.toArray.extract (8 * 8) (8 * 8 + 8) = rowC (rowAt 8) := by kernel_rfl
theorem idx_row_9 : tableC.toArray.extract (9 * 8) (9 * 8 + 8) = rowC (rowAt 9) := by kernel_rfl
theorem idx_row_10 : tableC.toArray.extract (10 * 8) (10 * 8 + 8) = rowC (rowAt 10) := by kernel_rfl
theorem idx_row_11 : tableC.toArray.extract (11 * 8) (11 * 8 + 8) = rowC (rowAt 11) := by kernel_rfl
theorem idx_row_12 : tableC.toArray.extract (12 * 8) (12 * 8 + 8) = rowC (rowAt 12) := by kernel_rfl
theorem idx_row_13 : tableC.toArray.extract (13 * 8) (13 * 8 + 8) = rowC (rowAt 13) := by kernel_rfl
theorem idx_row_14 : tableC.toArray.extract (14 * 8) (14 * 8 + 8) = rowC (rowAt 14) := by kernel_rfl
theorem idx_row_15 : tableC.toArray.extract (15 * 8) (15 * 8 + 8) = rowC (rowAt 15) := by kernel_rfl
theorem idx_row_16 : tableC.toArray.extract (16 * 8) (16 * 8 + 8) = rowC (rowAt 16) := by kernel_rfl
theorem idx_row_17 : tableC.toArray.extract (17 * 8) (17 * 8 + 8) = rowC (rowAt 17) := by kernel_rfl
theorem idx_row_18 : tableC.toArray.extract (18 * 8) (18 * 8 + 8) = rowC (rowAt 18) := by kernel_rfl
theorem idx_row_19 : tableC.toArray.extract (19 * 8) (19 * 8 + 8) = rowC (rowAt 19) := by kernel_rfl
theorem idx_row_20 : tableC.toArray.extract (20 * 8) (20 * 8 + 8) = rowC (rowAt 20) := by kernel_rfl
theorem idx_row_21 : tableC.toArray.extract (21 * 8) (21 * 8 + 8) = rowC (rowAt 21) := by kernel_rfl
theorem idx_row_22 : tableC.toArray.extract (22 * 8) (22 * 8 + 8) = rowC (rowAt 22) := by kernel_rfl
theorem idx_row_23 : tableC.toArray.extract (23 * 8) (23 * 8 + 8) = rowC (rowAt 23) := by kernel_rfl
theorem idx_row_24 : tableC.toArray.extract (24 * 8) (24 * 8 + 8) = rowC (rowAt 24) := by kernel_rfl
theorem idx_row_25 : tableC.toArray.extract (25 * 8) (25 * 8 + 8) = rowC (rowAt 25) := by kernel_rfl
theorem idx_row_26 : tableC.toArray.extract (26 * 8) (26 * 8 + 8) = rowC (rowAt 26) := by kernel_rfl
theorem idx_row_27 : tableC.toArray.extract (27 * 8) (27 * 8 + 8) = rowC (rowAt 27) := by kernel_rfl
theorem idx_row (k : Nat) (h : k < 28) : tableC.toArray.extract (k * 8) (k * 8 + 8) = rowC (rowAt k) := by
  have hk : k = 0 ∨ k = 1 ∨ k = 2 ∨ k = 3 ∨ k = 4 ∨ k = 5 ∨ k = 6 ∨ k = 7 ∨ k = 8 ∨ k = 9 ∨ k = 10 ∨ k = 11 ∨ k = 12 ∨ k = 13 ∨ k = 14 ∨ k = 15 ∨ k = 16 ∨ k = 17 ∨ k = 18 ∨ k = 19 ∨ k = 20 ∨ k = 21 ∨ k = 22 ∨ k = 23 ∨ k = 24 ∨ k = 25 ∨ k = 26 ∨ k = 27 := by omega
  rcases hk with rfl | rfl | rfl | rfl | rfl | rfl | rfl | rfl | rfl | rfl | rfl | rfl | rfl | rfl | rfl | rfl | rfl | rfl | rfl | rfl | rfl | rfl | rfl | rfl | rfl | rfl | rfl | rfl
  · exact idx_row_0
  · exact idx_row_1
  · exact idx_row_2
  · exact idx_row_3
  · exact idx_row_4
  · exact idx_row_5
  · exact idx_row_6
  · exact idx_row_7
  · exact idx_row_8
  · exact idx_row_9
  · exact idx_row_10
  · exact idx_row_11
  · exact idx_row_12
  · exact idx_row_13
  · exact idx_row_14
  · exact idx_row_15
  · exact idx_row_16
  · exact idx_row_17
  · exact idx_row_18
  · exact idx_row_19
  · exact idx_row_20
  · exact idx_row_21
  · exact idx_row_22
  · exact idx_row_23
  · exact idx_row_24
  · exact idx_row_25
  · exact idx_row_26
  · exact idx_row_27
theorem idx_run (C Y : Array Value) (k : Nat) (h : k < 28) (hC : C.extract (k * 8) (k * 8 + 8) = Y) (w : World) : (Instr.index 85 (.agg C) (.int .i64 k)).run Tryz.prog w = .ok (.agg Y) w := by
  have u := Tryz.underlying85
  have a := Tryz.isAgg84
  have z := Tryz.sizeOf84
  have h2 : (k : Int) < 28 := by omega
  simp [Instr.index, asIntOf, run_underlying u, part, a, z, hC, h, go_sem]
/-- the unit of a name -/
def unitOfL (s : ByteArray) : Option UnitD := (rowsL.find? fun r => decide (r.1.data.toList = s.data.toList)).map (·.2)
theorem bytes_inj {a b : ByteArray} : a.data.toList = b.data.toList ↔ a = b := by
  obtain ⟨⟨l⟩⟩ := a
  obtain ⟨⟨m⟩⟩ := b
  exact ⟨fun e => congrArg (fun l => ByteArray.mk (Array.mk l)) e, fun e => by rw [e]⟩
theorem unitOf_hit {s : ByteArray} {u : UnitD} (k : Nat) (h : k < 28) (hn : ∀ j, j < k → ¬ (rowAt j).1 = s) (hr : rowAt k = (s, u)) : unitOfL s = some u := by
  unfold unitOfL
  have hl : rowsL.length = 28 := rfl
  have hg : rowsL[k]? = some (s, u) := by
    have := List.getElem?_eq_getElem (l := rowsL) (i := k) (by omega)
    rw [this]
    have e : rowAt k = rowsL[k]'(by omega) := by unfold rowAt; rw [List.getD_eq_getElem?_getD, this]; rfl
    rw [← e, hr]
  have : rowsL.find? (fun r => decide (r.1.data.toList = s.data.toList)) = some (s, u) := by
    rw [List.find?_eq_some_iff_getElem]
    refine ⟨by simp, k, by omega, ?_, fun j hj => ?_⟩
    · have := List.getElem?_eq_getElem (l := rowsL) (i := k) (by omega)
      rw [this] at hg
      exact Option.some.inj hg
    · have h1 := hn j hj
      have e : rowAt j = rowsL[j]'(by omega) := by unfold rowAt; rw [List.getD_eq_getElem?_getD, List.getElem?_eq_getElem (by omega)]; rfl
      rw [e] at h1
      rw [← bytes_inj] at h1; simp [h1]
  rw [this]; rfl
theorem unitOf_miss {s : ByteArray} (hn : ∀ j, j < 28 → ¬ (rowAt j).1 = s) : unitOfL s = none := by
  unfold unitOfL
  have hl : rowsL.length = 28 := rfl
  have : rowsL.find? (fun r => decide (r.1.data.toList = s.data.toList)) = none := by
    rw [List.find?_eq_none]
    intro r hr
    obtain ⟨j, hj, rfl⟩ := List.getElem_of_mem hr
    have h1 := hn j (by omega)
    have e : rowAt j = rowsL[j] := by unfold rowAt; rw [List.getD_eq_getElem?_getD, List.getElem?_eq_getElem hj]; rfl
    rw [e] at h1
    rw [← bytes_inj] at h1; simp [h1]
  rw [this]; rfl

set_option maxRecDepth 100000 in
set_option maxHeartbeats 2000000 in
theorem unitOf_core (C : Array Value) (s : ByteArray) (w : World) (HT : Hid (∀ w, Calls Tryz.prog 48 #[] w fun e w' => e = .returned (.agg C) ∧ Below w.heap.size w w')) (HI : Hid (∀ k, k < 28 → C.extract (k * 8) (k * 8 + 8) = rowC (rowAt k))) :
    Calls Tryz.prog 35 #[.string s] w fun e w' => e = .returned (.tuple #[unitV ((unitOfL s).getD zeroU), .bool (unitOfL s).isSome]) ∧ Below w.heap.size w w' := by
  go_enter Tryz.func35, Tryz.ntmps35
  go_wp2_with fail
  obtain ⟨W, R, hW, hR, hwR, R1, B1⟩ := one_unit w
  rw [← hW, ← hR]
  have HR0 := Lib.hid R1
  have HB0 := Lib.hid B1
  clear hW hR R1 B1
  refine (HT.out _).mono ?_
  rintro e w1 ⟨rfl, hb⟩
  have HR1 := Lib.hid (HR0.out.keep hb)
  have HB1 := Lib.hid (HB0.out.trans (hb.mono HB0.out.size))
  clear hb HR0 HB0
  go_wp2_with fail
  go_loopw [7] (fun i wr => ∃ k : Nat, k ≤ 28 ∧ i = .int .i64 k ∧ Hid (UnitAt wr R 0 0 0 0 0 0 0 ∧ Below w.heap.size w wr ∧ ∀ j, j < k → ¬ (rowAt j).1 = s)) (fun i _ => 28 - (intOf i).toNat)
  case atStart => exact ⟨0, Nat.zero_le _, rfl, Lib.hid ⟨HR1.out, HB1.out, fun j hj => absurd hj (Nat.not_lt_zero _)⟩⟩
  case round =>
    obtain ⟨k, hk, rfl, HH⟩ := hrel
    obtain ⟨hr, hb, hn⟩ := HH.out
    have HR := Lib.hid hr
    have HB := Lib.hid hb
    have HN := Lib.hid hn
    clear hr hb hn HH HR1 HB1
    by_cases hlt : k < 28
    · have hi := HI.out k hlt
      obtain ⟨r, hr⟩ : ∃ r, r = rowAt k := ⟨_, rfl⟩
      rw [← hr] at hi
      obtain ⟨nm, ⟨x0, x1, x2, x3, xn, xd, xo⟩⟩ := r
      have hi := idx_run C #[.string nm, .int .i64 x0, .int .i64 x1, .int .i64 x2, .int .i64 x3, .int .i64 xn, .int .i64 xd, .int .i64 xo] k hlt hi
      have HK := Lib.hid hr
      have HRa := Lib.hid (HR.out.keep ((Below.refl wr.heap.size wr).alloc (Nat.le_refl _) (Obj.cells #[.string nm, .int .i64 x0, .int .i64 x1, .int .i64 x2, .int .i64 x3, .int .i64 xn, .int .i64 xd, .int .i64 xo] 84)))
      have HBa := Lib.hid (HB.out.alloc HB.out.size (Obj.cells #[.string nm, .int .i64 x0, .int .i64 x1, .int .i64 x2, .int .i64 x3, .int .i64 xn, .int .i64 xd, .int .i64 xo] 84))
      obtain ⟨r0, r1, r2, r3, r4, r5, r6, rz⟩ := HRa.out
      clear hr
      by_cases hs : nm = s
      · subst hs
        have HF := Lib.hid (show unitOfL nm = some ⟨x0, x1, x2, x3, xn, xd, xo⟩ from unitOf_hit k hlt HN.out HK.out.symm)
        go_wp2_with fail
        have hs := (HRa.out).set x0 x1 x2 x3 xn xd xo
        have y0 : ((((((((wr.alloc (Obj.cells #[.string nm, .int .i64 x0, .int .i64 x1, .int .i64 x2, .int .i64 x3, .int .i64 xn, .int .i64 xd, .int .i64 xo] 84)).setCell ⟨R, 0, none⟩ (.int .i64 x0)).setCell ⟨R, 1, none⟩ (.int .i64 x1)).setCell ⟨R, 2, none⟩ (.int .i64 x2)).setCell ⟨R, 3, none⟩ (.int .i64 x3)).setCell ⟨R, 4, none⟩ (.int .i64 xn)).setCell ⟨R, 5, none⟩ (.int .i64 xd)).setCell ⟨R, 6, none⟩ (.int .i64 xo)).cell? ⟨R, 0, none⟩ = some (.int .i64 x0) := hs.c0
        have y1 : ((((((((wr.alloc (Obj.cells #[.string nm, .int .i64 x0, .int .i64 x1, .int .i64 x2, .int .i64 x3, .int .i64 xn, .int .i64 xd, .int .i64 xo] 84)).setCell ⟨R, 0, none⟩ (.int .i64 x0)).setCell ⟨R, 1, none⟩ (.int .i64 x1)).setCell ⟨R, 2, none⟩ (.int .i64 x2)).setCell ⟨R, 3, none⟩ (.int .i64 x3)).setCell ⟨R, 4, none⟩ (.int .i64 xn)).setCell ⟨R, 5, none⟩ (.int .i64 xd)).setCell ⟨R, 6, none⟩ (.int .i64 xo)).cell? ⟨R, 1, none⟩ = some (.int .i64 x1) := hs.c1
        have y2 : ((((((((wr.alloc (Obj.cells #[.string nm, .int .i64 x0, .int .i64 x1, .int .i64 x2, .int .i64 x3, .int .i64 xn, .int .i64 xd, .int .i64 xo] 84)).setCell ⟨R, 0, none⟩ (.int .i64 x0)).setCell ⟨R, 1, none⟩ (.int .i64 x1)).setCell ⟨R, 2, none⟩ (.int .i64 x2)).setCell ⟨R, 3, none⟩ (.int .i64 x3)).setCell ⟨R, 4, none⟩ (.int .i64 xn)).setCell ⟨R, 5, none⟩ (.int .i64 xd)).setCell ⟨R, 6, none⟩ (.int .i64 xo)).cell? ⟨R, 2, none⟩ = some (.int .i64 x2) := hs.c2
        have y3 : ((((((((wr.alloc (Obj.cells #[.string nm, .int .i64 x0, .int .i64 x1, .int .i64 x2, .int .i64 x3, .int .i64 xn, .int .i64 xd, .int .i64 xo] 84)).setCell ⟨R, 0, none⟩ (.int .i64 x0)).setCell ⟨R, 1, none⟩ (.int .i64 x1)).setCell ⟨R, 2, none⟩ (.int .i64 x2)).setCell ⟨R, 3, none⟩ (.int .i64 x3)).setCell ⟨R, 4, none⟩ (.int .i64 xn)).setCell ⟨R, 5, none⟩ (.int .i64 xd)).setCell ⟨R, 6, none⟩ (.int .i64 xo)).cell? ⟨R, 3, none⟩ = some (.int .i64 x3) := hs.c3
        have y4 : ((((((((wr.alloc (Obj.cells #[.string nm, .int .i64 x0, .int .i64 x1, .int .i64 x2, .int .i64 x3, .int .i64 xn, .int .i64 xd, .int .i64 xo] 84)).setCell ⟨R, 0, none⟩ (.int .i64 x0)).setCell ⟨R, 1, none⟩ (.int .i64 x1)).setCell ⟨R, 2, none⟩ (.int .i64 x2)).setCell ⟨R, 3, none⟩ (.int .i64 x3)).setCell ⟨R, 4, none⟩ (.int .i64 xn)).setCell ⟨R, 5, none⟩ (.int .i64 xd)).setCell ⟨R, 6, none⟩ (.int .i64 xo)).cell? ⟨R, 4, none⟩ = some (.int .i64 xn) := hs.c4
        have y5 : ((((((((wr.alloc (Obj.cells #[.string nm, .int .i64 x0, .int .i64 x1, .int .i64 x2, .int .i64 x3, .int .i64 xn, .int .i64 xd, .int .i64 xo] 84)).setCell ⟨R, 0, none⟩ (.int .i64 x0)).setCell ⟨R, 1, none⟩ (.int .i64 x1)).setCell ⟨R, 2, none⟩ (.int .i64 x2)).setCell ⟨R, 3, none⟩ (.int .i64 x3)).setCell ⟨R, 4, none⟩ (.int .i64 xn)).setCell ⟨R, 5, none⟩ (.int .i64 xd)).setCell ⟨R, 6, none⟩ (.int .i64 xo)).cell? ⟨R, 5, none⟩ = some (.int .i64 xd) := hs.c5
        have y6 : ((((((((wr.alloc (Obj.cells #[.string nm, .int .i64 x0, .int .i64 x1, .int .i64 x2, .int .i64 x3, .int .i64 xn, .int .i64 xd, .int .i64 xo] 84)).setCell ⟨R, 0, none⟩ (.int .i64 x0)).setCell ⟨R, 1, none⟩ (.int .i64 x1)).setCell ⟨R, 2, none⟩ (.int .i64 x2)).setCell ⟨R, 3, none⟩ (.int .i64 x3)).setCell ⟨R, 4, none⟩ (.int .i64 xn)).setCell ⟨R, 5, none⟩ (.int .i64 xd)).setCell ⟨R, 6, none⟩ (.int .i64 xo)).cell? ⟨R, 6, none⟩ = some (.int .i64 xo) := hs.c6
        (try simp only [Exit.inBlock, Exit.then])
        refine bodyPost_ret (by simp [results, Tryz.results35, go_sem, y0, y1, y2, y3, y4, y5, y6]; try rfl) rfl ?_
        exact ⟨by rw [HF.out]; rfl, setU_below HBa.out hwR x0 x1 x2 x3 xn xd xo⟩
      · have hs2 : (nm.toList == s.toList) = false := by
          rw [beq_eq_false_iff_ne, toList_eq, toList_eq]
          intro e
          exact hs (bytes_inj.1 e)
        have HS := Lib.hid hs
        clear hs
        go_wp2_with fail
        go_roundw
        case rel => exact ⟨k + 1, by omega, by go_num, Lib.hid ⟨HRa.out, HBa.out, fun j hj => by
          by_cases h : j = k
          · subst h; rw [← HK.out]; exact HS.out
          · exact HN.out j (by omega)⟩⟩
        case measure => simp [intOf]; omega
    · obtain rfl : k = 28 := by omega
      have HF := Lib.hid (show unitOfL s = none from unitOf_miss HN.out)
      obtain ⟨r0, r1, r2, r3, r4, r5, r6, rz⟩ := HR.out
      go_wp2_with fail
      have hs := (HR.out).set 0 0 0 0 0 0 0
      have y0 : (((((((wr.setCell ⟨R, 0, none⟩ (.int .i64 0)).setCell ⟨R, 1, none⟩ (.int .i64 0)).setCell ⟨R, 2, none⟩ (.int .i64 0)).setCell ⟨R, 3, none⟩ (.int .i64 0)).setCell ⟨R, 4, none⟩ (.int .i64 0)).setCell ⟨R, 5, none⟩ (.int .i64 0)).setCell ⟨R, 6, none⟩ (.int .i64 0)).cell? ⟨R, 0, none⟩ = some (.int .i64 0) := hs.c0
      have y1 : (((((((wr.setCell ⟨R, 0, none⟩ (.int .i64 0)).setCell ⟨R, 1, none⟩ (.int .i64 0)).setCell ⟨R, 2, none⟩ (.int .i64 0)).setCell ⟨R, 3, none⟩ (.int .i64 0)).setCell ⟨R, 4, none⟩ (.int .i64 0)).setCell ⟨R, 5, none⟩ (.int .i64 0)).setCell ⟨R, 6, none⟩ (.int .i64 0)).cell? ⟨R, 1, none⟩ = some (.int .i64 0) := hs.c1
      have y2 : (((((((wr.setCell ⟨R, 0, none⟩ (.int .i64 0)).setCell ⟨R, 1, none⟩ (.int .i64 0)).setCell ⟨R, 2, none⟩ (.int .i64 0)).setCell ⟨R, 3, none⟩ (.int .i64 0)).setCell ⟨R, 4, none⟩ (.int .i64 0)).setCell ⟨R, 5, none⟩ (.int .i64 0)).setCell ⟨R, 6, none⟩ (.int .i64 0)).cell? ⟨R, 2, none⟩ = some (.int .i64 0) := hs.c2
      have y3 : (((((((wr.setCell ⟨R, 0, none⟩ (.int .i64 0)).setCell ⟨R, 1, none⟩ (.int .i64 0)).setCell ⟨R, 2, none⟩ (.int .i64 0)).setCell ⟨R, 3, none⟩ (.int .i64 0)).setCell ⟨R, 4, none⟩ (.int .i64 0)).setCell ⟨R, 5, none⟩ (.int .i64 0)).setCell ⟨R, 6, none⟩ (.int .i64 0)).cell? ⟨R, 3, none⟩ = some (.int .i64 0) := hs.c3
      have y4 : (((((((wr.setCell ⟨R, 0, none⟩ (.int .i64 0)).setCell ⟨R, 1, none⟩ (.int .i64 0)).setCell ⟨R, 2, none⟩ (.int .i64 0)).setCell ⟨R, 3, none⟩ (.int .i64 0)).setCell ⟨R, 4, none⟩ (.int .i64 0)).setCell ⟨R, 5, none⟩ (.int .i64 0)).setCell ⟨R, 6, none⟩ (.int .i64 0)).cell? ⟨R, 4, none⟩ = some (.int .i64 0) := hs.c4
      have y5 : (((((((wr.setCell ⟨R, 0, none⟩ (.int .i64 0)).setCell ⟨R, 1, none⟩ (.int .i64 0)).setCell ⟨R, 2, none⟩ (.int .i64 0)).setCell ⟨R, 3, none⟩ (.int .i64 0)).setCell ⟨R, 4, none⟩ (.int .i64 0)).setCell ⟨R, 5, none⟩ (.int .i64 0)).setCell ⟨R, 6, none⟩ (.int .i64 0)).cell? ⟨R, 5, none⟩ = some (.int .i64 0) := hs.c5
      have y6 : (((((((wr.setCell ⟨R, 0, none⟩ (.int .i64 0)).setCell ⟨R, 1, none⟩ (.int .i64 0)).setCell ⟨R, 2, none⟩ (.int .i64 0)).setCell ⟨R, 3, none⟩ (.int .i64 0)).setCell ⟨R, 4, none⟩ (.int .i64 0)).setCell ⟨R, 5, none⟩ (.int .i64 0)).setCell ⟨R, 6, none⟩ (.int .i64 0)).cell? ⟨R, 6, none⟩ = some (.int .i64 0) := hs.c6
      (try simp only [Exit.inBlock, Exit.then])
      refine bodyPost_ret (by simp [results, Tryz.results35, go_sem, y0, y1, y2, y3, y4, y5, y6]; try rfl) rfl ?_
      exact ⟨by rw [HF.out]; rfl, setU_below HB.out hwR 0 0 0 0 0 0 0⟩

theorem unitOf_any (s : ByteArray) (w : World) :
    Calls Tryz.prog 35 #[.string s] w fun e w' => e = .returned (.tuple #[unitV ((unitOfL s).getD zeroU), .bool (unitOfL s).isSome]) ∧ Below w.heap.size w w' :=
  unitOf_core tableC.toArray s w (Lib.hid table_any) (Lib.hid idx_row)
end Go.Proofs.YtlahoohgbfjciaaGreatDoor
