/- The contract of units.Valid. -/
import Derived.Test.YtlahoohgbfjciaaGreatDoorUa
import Derived.Laws.StructEq
import Derived.Laws.Cover2
namespace Go.Proofs.YtlahoohgbfjciaaGreatDoor
open Go.RowKit Go.Shelf

/-- a unit, in plain numbers -/
structure UnitD where
  e0 : Int
  e1 : Int
  e2 : Int
  e3 : Int
  n : Int
  d : Int
  o : Int
def expB (e : Int) : Bool := decide (-9 ≤ e) && decide (e ≤ 9)
def validB (u : UnitD) : Bool :=
  expB u.e0 && expB u.e1 && expB u.e2 && expB u.e3 && (inScaleB u.n && inScaleB u.d && (Nat.gcd u.n.toNat u.d.toNat == 1)) && (decide (-1000000 ≤ u.o) && decide (u.o ≤ 1000000)) && (decide (u.o = 0) || decide (u.e0 = 0 ∧ u.e1 = 0 ∧ u.e2 = 0 ∧ u.e3 = 1))
abbrev unitV (u : UnitD) : Value := .agg #[.int .i64 u.e0, .int .i64 u.e1, .int .i64 u.e2, .int .i64 u.e3, .int .i64 u.n, .int .i64 u.d, .int .i64 u.o]

theorem eq_four (a b c d p q r s : Int) (w : World) : (Op.equalIn 10000 22 (.agg #[.int .i64 a, .int .i64 b, .int .i64 c, .int .i64 d]) (.agg #[.int .i64 p, .int .i64 q, .int .i64 r, .int .i64 s])).run Tryz.prog w = .ok (a == p && b == q && c == r && d == s) w := by
  have u3 := Tryz.underlying3
  have a3 := Tryz.isAgg3
  have z3 := Tryz.sizeOf3
  rw [show (10000 : Nat) = 9999 + 1 from rfl, Op.equalIn]
  simp only [Sem.run_bind, run_underlying Tryz.underlying22, Result.andThen_ok]
  simp only [Std.Legacy.Range.forIn_eq_forIn_range', Std.Legacy.Range.size, Nat.sub_zero, Nat.add_sub_cancel, Nat.div_one, List.range'_succ, List.range'_zero, List.forIn_cons, List.forIn_nil]
  go_simp
  by_cases h1 : a = p <;> by_cases h2 : b = q <;> by_cases h3 : c = r <;> by_cases h4 : d = s <;> simp [h1, h2, h3, h4]
theorem idx0 (a b c d : Int) (w : World) : (Instr.index 22 (.agg #[.int .i64 a, .int .i64 b, .int .i64 c, .int .i64 d]) (.int .i64 0)).run Tryz.prog w = .ok (.int .i64 a) w := by kernel_rfl
theorem idx1 (a b c d : Int) (w : World) : (Instr.index 22 (.agg #[.int .i64 a, .int .i64 b, .int .i64 c, .int .i64 d]) (.int .i64 1)).run Tryz.prog w = .ok (.int .i64 b) w := by kernel_rfl
theorem idx2 (a b c d : Int) (w : World) : (Instr.index 22 (.agg #[.int .i64 a, .int .i64 b, .int .i64 c, .int .i64 d]) (.int .i64 2)).run Tryz.prog w = .ok (.int .i64 c) w := by kernel_rfl
theorem idx3 (a b c d : Int) (w : World) : (Instr.index 22 (.agg #[.int .i64 a, .int .i64 b, .int .i64 c, .int .i64 d]) (.int .i64 3)).run Tryz.prog w = .ok (.int .i64 d) w := by kernel_rfl

theorem divisor_int (n d : Int) (w : World) (h1 : inScaleB n = true) (h2 : inScaleB d = true) :
    Calls Tryz.prog 24 #[.int .i64 n, .int .i64 d] w fun e w' => e = .returned (.int .i64 (Nat.gcd n.toNat d.toNat)) ∧ Below w.heap.size w w' := by
  rw [inScale_iff] at h1 h2
  have := divisor_any n.toNat d.toNat w (by omega) (by omega)
  rwa [Int.toNat_of_nonneg (by omega), Int.toNat_of_nonneg (by omega)] at this
theorem exp_bad {e : Int} (h : e < -9 ∨ 9 < e) : expB e = false := by
  unfold expB
  rcases h with h | h
  · rw [decide_eq_false (by omega), Bool.false_and]
  · rw [decide_eq_false (show ¬ e ≤ 9 by omega), Bool.and_false]
theorem exp_good {e : Int} (h1 : ¬ e < -9) (h2 : ¬ 9 < e) : expB e = true := by
  unfold expB
  rw [decide_eq_true (show -9 ≤ e by omega), decide_eq_true (show e ≤ 9 by omega)]; rfl

set_option maxHeartbeats 4000000 in
set_option maxRecDepth 100000 in
theorem valid_any (e0 e1 e2 e3 n d o : Int) (w : World) :
    Calls Tryz.prog 7 #[.agg #[.int .i64 e0, .int .i64 e1, .int .i64 e2, .int .i64 e3, .int .i64 n, .int .i64 d, .int .i64 o]] w fun e w' => e = .returned (.bool (validB ⟨e0, e1, e2, e3, n, d, o⟩)) ∧ Below w.heap.size w w' := by
  have hZ : validB ⟨e0, e1, e2, e3, n, d, o⟩ = (expB e0 && expB e1 && expB e2 && expB e3 && (inScaleB n && inScaleB d && (Nat.gcd n.toNat d.toNat == 1)) && (decide (-1000000 ≤ o) && decide (o ≤ 1000000)) && (decide (o = 0) || decide (e0 = 0 ∧ e1 = 0 ∧ e2 = 0 ∧ e3 = 1))) := rfl
  obtain ⟨Z, hZZ⟩ : ∃ Z, Z = validB ⟨e0, e1, e2, e3, n, d, o⟩ := ⟨_, rfl⟩
  rw [← hZZ] at hZ ⊢
  have HZ := Lib.hid hZ
  have HD := Lib.hid fun w' h1 h2 => divisor_int n d w' h1 h2
  have i0 := idx0 e0 e1 e2 e3
  have i1 := idx1 e0 e1 e2 e3
  have i2 := idx2 e0 e1 e2 e3
  have i3 := idx3 e0 e1 e2 e3
  clear hZ hZZ
  go_enter Tryz.func7, Tryz.ntmps7
  go_wp2_with fail
  have BW := Lib.hid ((Below.refl w.heap.size w).alloc (Nat.le_refl _) (Obj.cells #[.int .i64 e0, .int .i64 e1, .int .i64 e2, .int .i64 e3, .int .i64 n, .int .i64 d, .int .i64 o] 28))
  have c0 : (w.alloc (Obj.cells #[.int .i64 e0, .int .i64 e1, .int .i64 e2, .int .i64 e3, .int .i64 n, .int .i64 d, .int .i64 o] 28)).cell? ⟨w.heap.size, 0, none⟩ = some (.int .i64 e0) := World.cell?_alloc_new _ _ _ _
  have c1 : (w.alloc (Obj.cells #[.int .i64 e0, .int .i64 e1, .int .i64 e2, .int .i64 e3, .int .i64 n, .int .i64 d, .int .i64 o] 28)).cell? ⟨w.heap.size, 1, none⟩ = some (.int .i64 e1) := World.cell?_alloc_new _ _ _ _
  have c2 : (w.alloc (Obj.cells #[.int .i64 e0, .int .i64 e1, .int .i64 e2, .int .i64 e3, .int .i64 n, .int .i64 d, .int .i64 o] 28)).cell? ⟨w.heap.size, 2, none⟩ = some (.int .i64 e2) := World.cell?_alloc_new _ _ _ _
  have c3 : (w.alloc (Obj.cells #[.int .i64 e0, .int .i64 e1, .int .i64 e2, .int .i64 e3, .int .i64 n, .int .i64 d, .int .i64 o] 28)).cell? ⟨w.heap.size, 3, none⟩ = some (.int .i64 e3) := World.cell?_alloc_new _ _ _ _
  have c4 : (w.alloc (Obj.cells #[.int .i64 e0, .int .i64 e1, .int .i64 e2, .int .i64 e3, .int .i64 n, .int .i64 d, .int .i64 o] 28)).cell? ⟨w.heap.size, 4, none⟩ = some (.int .i64 n) := World.cell?_alloc_new _ _ _ _
  have c5 : (w.alloc (Obj.cells #[.int .i64 e0, .int .i64 e1, .int .i64 e2, .int .i64 e3, .int .i64 n, .int .i64 d, .int .i64 o] 28)).cell? ⟨w.heap.size, 5, none⟩ = some (.int .i64 d) := World.cell?_alloc_new _ _ _ _
  have c6 : (w.alloc (Obj.cells #[.int .i64 e0, .int .i64 e1, .int .i64 e2, .int .i64 e3, .int .i64 n, .int .i64 d, .int .i64 o] 28)).cell? ⟨w.heap.size, 6, none⟩ = some (.int .i64 o) := World.cell?_alloc_new _ _ _ _
  have hlt : w.heap.size < (w.alloc (Obj.cells #[.int .i64 e0, .int .i64 e1, .int .i64 e2, .int .i64 e3, .int .i64 n, .int .i64 d, .int .i64 o] 28)).heap.size := by rw [World.size_alloc]; omega
  obtain ⟨g, hg⟩ : ∃ g, g = w.heap.size := ⟨_, rfl⟩
  rw [← hg] at c0 c1 c2 c3 c4 c5 c6 hlt
  rw [← hg]
  generalize w.alloc (Obj.cells #[.int .i64 e0, .int .i64 e1, .int .i64 e2, .int .i64 e3, .int .i64 n, .int .i64 d, .int .i64 o] 28) = W at c0 c1 c2 c3 c4 c5 c6 hlt BW ⊢
  clear hg
  go_loop [7] (fun i => i = .int .i64 0 ∨ (i = .int .i64 1 ∧ Hid (expB e0 = true)) ∨ (i = .int .i64 2 ∧ Hid (expB e0 = true ∧ expB e1 = true)) ∨ (i = .int .i64 3 ∧ Hid (expB e0 = true ∧ expB e1 = true ∧ expB e2 = true)) ∨ (i = .int .i64 4 ∧ Hid (expB e0 = true ∧ expB e1 = true ∧ expB e2 = true ∧ expB e3 = true))) (fun i => 4 - (intOf i).toNat)
  case atStart => exact .inl rfl
  case round =>
    rcases hrel with rfl | ⟨rfl, hk⟩ | ⟨rfl, hk⟩ | ⟨rfl, hk⟩ | ⟨rfl, hk⟩
    · by_cases h1 : e0 < -9
      · have t1 : decide (e0 < -9) = true := decide_eq_true h1
        have HF := Lib.hid (show Z = false by rw [HZ.out, exp_bad (.inl h1)]; simp)
        clear h1
        go_wp2_with fail
        go_ret
        exact ⟨by rw [HF.out]; rfl, BW.out⟩
      · have t1 : decide (e0 < -9) = false := decide_eq_false h1
        by_cases h2 : 9 < e0
        · have t2 : decide (9 < e0) = true := decide_eq_true h2
          have HF := Lib.hid (show Z = false by rw [HZ.out, exp_bad (.inr h2)]; simp)
          clear h1 h2
          go_wp2_with fail
          go_ret
          exact ⟨by rw [HF.out]; rfl, BW.out⟩
        · have t2 : decide (9 < e0) = false := decide_eq_false h2
          go_wp2_with fail
          go_round
          case rel => exact .inr (.inl ⟨rfl, exp_good h1 h2⟩)
          case measure => simp [intOf]
    · by_cases h1 : e1 < -9
      · have t1 : decide (e1 < -9) = true := decide_eq_true h1
        have HF := Lib.hid (show Z = false by rw [HZ.out, exp_bad (.inl h1)]; simp)
        clear h1
        go_wp2_with fail
        go_ret
        exact ⟨by rw [HF.out]; rfl, BW.out⟩
      · have t1 : decide (e1 < -9) = false := decide_eq_false h1
        by_cases h2 : 9 < e1
        · have t2 : decide (9 < e1) = true := decide_eq_true h2
          have HF := Lib.hid (show Z = false by rw [HZ.out, exp_bad (.inr h2)]; simp)
          clear h1 h2
          go_wp2_with fail
          go_ret
          exact ⟨by rw [HF.out]; rfl, BW.out⟩
        · have t2 : decide (9 < e1) = false := decide_eq_false h2
          go_wp2_with fail
          go_round
          case rel => exact .inr (.inr (.inl ⟨rfl, ⟨hk.out, exp_good h1 h2⟩⟩))
          case measure => simp [intOf]
    · by_cases h1 : e2 < -9
      · have t1 : decide (e2 < -9) = true := decide_eq_true h1
        have HF := Lib.hid (show Z = false by rw [HZ.out, exp_bad (.inl h1)]; simp)
        clear h1
        go_wp2_with fail
        go_ret
        exact ⟨by rw [HF.out]; rfl, BW.out⟩
      · have t1 : decide (e2 < -9) = false := decide_eq_false h1
        by_cases h2 : 9 < e2
        · have t2 : decide (9 < e2) = true := decide_eq_true h2
          have HF := Lib.hid (show Z = false by rw [HZ.out, exp_bad (.inr h2)]; simp)
          clear h1 h2
          go_wp2_with fail
          go_ret
          exact ⟨by rw [HF.out]; rfl, BW.out⟩
        · have t2 : decide (9 < e2) = false := decide_eq_false h2
          go_wp2_with fail
          go_round
          case rel => exact .inr (.inr (.inr (.inl ⟨rfl, ⟨hk.out.1, hk.out.2, exp_good h1 h2⟩⟩)))
          case measure => simp [intOf]
    · by_cases h1 : e3 < -9
      · have t1 : decide (e3 < -9) = true := decide_eq_true h1
        have HF := Lib.hid (show Z = false by rw [HZ.out, exp_bad (.inl h1)]; simp)
        clear h1
        go_wp2_with fail
        go_ret
        exact ⟨by rw [HF.out]; rfl, BW.out⟩
      · have t1 : decide (e3 < -9) = false := decide_eq_false h1
        by_cases h2 : 9 < e3
        · have t2 : decide (9 < e3) = true := decide_eq_true h2
          have HF := Lib.hid (show Z = false by rw [HZ.out, exp_bad (.inr h2)]; simp)
          clear h1 h2
          go_wp2_with fail
          go_ret
          exact ⟨by rw [HF.out]; rfl, BW.out⟩
        · have t2 : decide (9 < e3) = false := decide_eq_false h2
          go_wp2_with fail
          go_round
          case rel => exact .inr (.inr (.inr (.inr ⟨rfl, ⟨hk.out.1, hk.out.2.1, hk.out.2.2, exp_good h1 h2⟩⟩)))
          case measure => simp [intOf]
    · have HZ2 := Lib.hid (show Z = ((inScaleB n && inScaleB d && (Nat.gcd n.toNat d.toNat == 1)) && (decide (-1000000 ≤ o) && decide (o ≤ 1000000)) && (decide (o = 0) || decide (e0 = 0 ∧ e1 = 0 ∧ e2 = 0 ∧ e3 = 1))) by rw [HZ.out, hk.out.1, hk.out.2.1, hk.out.2.2.1, hk.out.2.2.2]; simp)
      clear HZ hk
      have hs1 := fun w' => inScale_any n w'
      have hs2 := fun w' => inScale_any d w'
      cases s1 : inScaleB n
      · have HF := Lib.hid (show Z = false by rw [HZ2.out, s1]; simp)
        rw [s1] at hs1
        have H1 := Lib.hid hs1
        clear hs1 hs2 s1
        go_wp2_with fail
        refine (H1.out _).mono ?_
        rintro e w1 ⟨rfl, rfl⟩
        go_wp2_with fail
        go_ret
        exact ⟨by rw [HF.out]; rfl, BW.out⟩
      · rw [s1] at hs1
        have H1 := Lib.hid hs1
        clear hs1
        cases s2 : inScaleB d
        · have HF := Lib.hid (show Z = false by rw [HZ2.out, s2]; simp)
          rw [s2] at hs2
          have H2 := Lib.hid hs2
          clear hs2 s1 s2
          go_wp2_with fail
          refine (H1.out _).mono ?_
          rintro e w1 ⟨rfl, rfl⟩
          go_wp2_with fail
          refine (H2.out _).mono ?_
          rintro e w1 ⟨rfl, rfl⟩
          go_wp2_with fail
          go_ret
          exact ⟨by rw [HF.out]; rfl, BW.out⟩
        · rw [s2] at hs2
          have H2 := Lib.hid hs2
          have H3 := Lib.hid fun w' => HD.out w' s1 s2
          have HZ3 := Lib.hid (show Z = ((Nat.gcd n.toNat d.toNat == 1) && (decide (-1000000 ≤ o) && decide (o ≤ 1000000)) && (decide (o = 0) || decide (e0 = 0 ∧ e1 = 0 ∧ e2 = 0 ∧ e3 = 1))) by rw [HZ2.out, s1, s2]; simp)
          obtain ⟨G, hG⟩ : ∃ G : Nat, G = Nat.gcd n.toNat d.toNat := ⟨_, rfl⟩
          rw [← hG] at H3 HZ3
          clear hs2 s1 s2 HZ2 hG
          by_cases hg1 : G = 1
          · subst hg1
            by_cases o1 : o < -1000000
            · have t1 : decide (o < -1000000) = true := decide_eq_true o1
              have HF := Lib.hid (show Z = false by rw [HZ3.out, decide_eq_false (show ¬ -1000000 ≤ o by omega)]; simp)
              clear o1
              go_wp2_with fail
              refine (H1.out _).mono ?_
              rintro e w1 ⟨rfl, rfl⟩
              go_wp2_with fail
              refine (H2.out _).mono ?_
              rintro e w1 ⟨rfl, rfl⟩
              go_wp2_with fail
              refine (H3.out _).mono ?_
              rintro e w1 ⟨rfl, hb⟩
              have r4 := (hb.cell (p := ⟨g, 4, none⟩) hlt).trans c4
              have r0 := (hb.cell (p := ⟨g, 0, none⟩) hlt).trans c0
              have r1 := (hb.cell (p := ⟨g, 1, none⟩) hlt).trans c1
              have r2 := (hb.cell (p := ⟨g, 2, none⟩) hlt).trans c2
              have r3 := (hb.cell (p := ⟨g, 3, none⟩) hlt).trans c3
              have r5 := (hb.cell (p := ⟨g, 5, none⟩) hlt).trans c5
              have r6 := (hb.cell (p := ⟨g, 6, none⟩) hlt).trans c6
              have B1 := Lib.hid (BW.out.trans (hb.mono BW.out.size))
              clear hb
              go_wp2_with fail
              go_ret
              exact ⟨by rw [HF.out]; rfl, B1.out⟩
            · have t1 : decide (o < -1000000) = false := decide_eq_false o1
              by_cases o2 : 1000000 < o
              · have t2 : decide (1000000 < o) = true := decide_eq_true o2
                have HF := Lib.hid (show Z = false by rw [HZ3.out, decide_eq_false (show ¬ o ≤ 1000000 by omega)]; simp)
                clear o1 o2
                go_wp2_with fail
                refine (H1.out _).mono ?_
                rintro e w1 ⟨rfl, rfl⟩
                go_wp2_with fail
                refine (H2.out _).mono ?_
                rintro e w1 ⟨rfl, rfl⟩
                go_wp2_with fail
                refine (H3.out _).mono ?_
                rintro e w1 ⟨rfl, hb⟩
                have r4 := (hb.cell (p := ⟨g, 4, none⟩) hlt).trans c4
                have r0 := (hb.cell (p := ⟨g, 0, none⟩) hlt).trans c0
                have r1 := (hb.cell (p := ⟨g, 1, none⟩) hlt).trans c1
                have r2 := (hb.cell (p := ⟨g, 2, none⟩) hlt).trans c2
                have r3 := (hb.cell (p := ⟨g, 3, none⟩) hlt).trans c3
                have r5 := (hb.cell (p := ⟨g, 5, none⟩) hlt).trans c5
                have r6 := (hb.cell (p := ⟨g, 6, none⟩) hlt).trans c6
                have B1 := Lib.hid (BW.out.trans (hb.mono BW.out.size))
                clear hb
                go_wp2_with fail
                go_ret
                exact ⟨by rw [HF.out]; rfl, B1.out⟩
              · have t2 : decide (1000000 < o) = false := decide_eq_false o2
                have HZ4 := Lib.hid (show Z = (decide (o = 0) || decide (e0 = 0 ∧ e1 = 0 ∧ e2 = 0 ∧ e3 = 1)) by rw [HZ3.out, decide_eq_true (show -1000000 ≤ o by omega), decide_eq_true (show o ≤ 1000000 by omega)]; simp)
                clear HZ3 o1 o2
                by_cases o3 : o = 0
                · have t3 : (o == 0) = true := by rw [beq_iff_eq]; exact o3
                  have HF := Lib.hid (show Z = true by rw [HZ4.out, decide_eq_true o3]; simp)
                  clear o3
                  go_wp2_with fail
                  refine (H1.out _).mono ?_
                  rintro e w1 ⟨rfl, rfl⟩
                  go_wp2_with fail
                  refine (H2.out _).mono ?_
                  rintro e w1 ⟨rfl, rfl⟩
                  go_wp2_with fail
                  refine (H3.out _).mono ?_
                  rintro e w1 ⟨rfl, hb⟩
                  have r4 := (hb.cell (p := ⟨g, 4, none⟩) hlt).trans c4
                  have r0 := (hb.cell (p := ⟨g, 0, none⟩) hlt).trans c0
                  have r1 := (hb.cell (p := ⟨g, 1, none⟩) hlt).trans c1
                  have r2 := (hb.cell (p := ⟨g, 2, none⟩) hlt).trans c2
                  have r3 := (hb.cell (p := ⟨g, 3, none⟩) hlt).trans c3
                  have r5 := (hb.cell (p := ⟨g, 5, none⟩) hlt).trans c5
                  have r6 := (hb.cell (p := ⟨g, 6, none⟩) hlt).trans c6
                  have B1 := Lib.hid (BW.out.trans (hb.mono BW.out.size))
                  clear hb
                  go_wp2_with fail
                  go_ret
                  exact ⟨by rw [HF.out]; rfl, B1.out⟩
                · have t3 : (o == 0) = false := by rw [beq_eq_false_iff_ne]; exact o3
                  have HF0 := Lib.hid (show Z = decide (e0 = 0 ∧ e1 = 0 ∧ e2 = 0 ∧ e3 = 1) by rw [HZ4.out, decide_eq_false o3]; simp)
                  clear o3
                  have HF := Lib.hid (show Z = (e0 == 0 && e1 == 0 && e2 == 0 && e3 == 1) by
                    rw [HF0.out, Bool.eq_iff_iff, decide_eq_true_eq]
                    simp [and_assoc])
                  have heq := fun w => eq_four e0 e1 e2 e3 0 0 0 1 w
                  clear i0 i1 i2 i3
                  go_wp2_with fail
                  refine (H1.out _).mono ?_
                  rintro e w1 ⟨rfl, rfl⟩
                  go_wp2_with fail
                  refine (H2.out _).mono ?_
                  rintro e w1 ⟨rfl, rfl⟩
                  go_wp2_with fail
                  refine (H3.out _).mono ?_
                  rintro e w1 ⟨rfl, hb⟩
                  have r4 := (hb.cell (p := ⟨g, 4, none⟩) hlt).trans c4
                  have r0 := (hb.cell (p := ⟨g, 0, none⟩) hlt).trans c0
                  have r1 := (hb.cell (p := ⟨g, 1, none⟩) hlt).trans c1
                  have r2 := (hb.cell (p := ⟨g, 2, none⟩) hlt).trans c2
                  have r3 := (hb.cell (p := ⟨g, 3, none⟩) hlt).trans c3
                  have r5 := (hb.cell (p := ⟨g, 5, none⟩) hlt).trans c5
                  have r6 := (hb.cell (p := ⟨g, 6, none⟩) hlt).trans c6
                  have B1 := Lib.hid (BW.out.trans (hb.mono BW.out.size))
                  clear hb
                  go_wp2_with fail
                  go_ret
                  exact ⟨by rw [HF.out]; rfl, B1.out⟩
          · have t0 : ((G : Int) != 1) = true := by rw [bne_iff_ne]; omega
            have HF := Lib.hid (show Z = false by rw [HZ3.out, (beq_eq_false_iff_ne.2 hg1 : (G == 1) = false)]; simp)
            clear hg1
            go_wp2_with fail
            refine (H1.out _).mono ?_
            rintro e w1 ⟨rfl, rfl⟩
            go_wp2_with fail
            refine (H2.out _).mono ?_
            rintro e w1 ⟨rfl, rfl⟩
            go_wp2_with fail
            refine (H3.out _).mono ?_
            rintro e w1 ⟨rfl, hb⟩
            have r4 := (hb.cell (p := ⟨g, 4, none⟩) hlt).trans c4
            have r0 := (hb.cell (p := ⟨g, 0, none⟩) hlt).trans c0
            have r1 := (hb.cell (p := ⟨g, 1, none⟩) hlt).trans c1
            have r2 := (hb.cell (p := ⟨g, 2, none⟩) hlt).trans c2
            have r3 := (hb.cell (p := ⟨g, 3, none⟩) hlt).trans c3
            have r5 := (hb.cell (p := ⟨g, 5, none⟩) hlt).trans c5
            have r6 := (hb.cell (p := ⟨g, 6, none⟩) hlt).trans c6
            have B1 := Lib.hid (BW.out.trans (hb.mono BW.out.size))
            clear hb
            go_wp2_with fail
            go_ret
            exact ⟨by rw [HF.out]; rfl, B1.out⟩
end Go.Proofs.YtlahoohgbfjciaaGreatDoor
