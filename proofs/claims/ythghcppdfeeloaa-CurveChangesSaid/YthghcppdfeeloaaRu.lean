/- The contract of the specification's Useless. -/
import Derived.Test.YthghcppdfeeloaaRg
import Derived.Test.YthghcppdfeeloaaSp
import Derived.BigRegion
namespace Go.Proofs.Ythghcppdfeeloaa
open Go.RowKit

/-- three blocks of two cells, newly made -/
theorem three_blocks (w0 w : World) (hb : Below w0.heap.size w0 w) (u1 v1 u2 v2 u3 v3 : Value) (t : TypeId) (W : World) (hW : W = (((w.alloc (.cells #[u1, v1] t)).alloc (.cells #[u2, v2] t)).alloc (.cells #[u3, v3] t)).drew) :
    Below w0.heap.size w0 W ∧ W.heap.size = w.heap.size + 3 ∧ W.cell? ⟨w.heap.size, 0, none⟩ = some u1 ∧ W.cell? ⟨w.heap.size, 1, none⟩ = some v1 ∧ W.cell? ⟨w.heap.size + 1, 0, none⟩ = some u2 ∧ W.cell? ⟨w.heap.size + 1, 1, none⟩ = some v2 ∧ W.cell? ⟨w.heap.size + 1 + 1, 0, none⟩ = some u3 ∧ W.cell? ⟨w.heap.size + 1 + 1, 1, none⟩ = some v3 := by
  have e := World.size_alloc w (.cells #[u1, v1] t)
  have e2 := World.size_alloc (w.alloc (.cells #[u1, v1] t)) (.cells #[u2, v2] t)
  rw [e] at e2
  have a := cell_two0 (w.alloc (.cells #[u1, v1] t)) u2 v2 t
  have a' := cell_two1 (w.alloc (.cells #[u1, v1] t)) u2 v2 t
  have c := cell_two0 ((w.alloc (.cells #[u1, v1] t)).alloc (.cells #[u2, v2] t)) u3 v3 t
  have c' := cell_two1 ((w.alloc (.cells #[u1, v1] t)).alloc (.cells #[u2, v2] t)) u3 v3 t
  rw [e] at a a'
  rw [e2] at c c'
  subst hW
  refine ⟨(((hb.alloc hb.size _).alloc (by rw [e]; exact Nat.le_succ_of_le hb.size) _).alloc (by rw [e2]; have := hb.size; omega) _).drew, by rw [World.size_drew, World.size_alloc, World.size_alloc, World.size_alloc], cell_alloc_sl _ (cell_alloc_sl _ (cell_two0 _ _ _ _)), cell_alloc_sl _ (cell_alloc_sl _ (cell_two1 _ _ _ _)), cell_alloc_sl _ a, cell_alloc_sl _ a', c, c'⟩

theorem two_same (V U : Int) : ((V / 1000000000000 == U / 1000000000000) && (V % 1000000000000 == U % 1000000000000)) = decide (V = U) := by
  rw [Bool.eq_iff_iff, Bool.and_eq_true, beq_iff_eq, beq_iff_eq, decide_eq_true_eq]
  omega

set_option maxRecDepth 100000 in
set_option maxHeartbeats 8000000 in
theorem useless_any (b off cap i : Nat) (ks : List (Int × Int)) (w : World) (hi : i < ks.length) (he : checkL ks = 0) (hb : b < w.heap.size) (hc : Knots w b off ks) :
    Calls Try.prog 43 #[.slice (some ⟨b, off, none⟩) ks.length cap, .int .i64 i] w fun e w' => e = .returned (.bool (needB ks i)) ∧ Below w.heap.size w w' := by
  obtain ⟨h0, h32, hfit, hrise⟩ := check_zero ks he
  have hN : needB ks i = if ks.length = 1 then false else if i = 0 then ky ks 0 == ky ks 1 else if i = ks.length - 1 then ky ks (ks.length - 1 - 1) == ky ks (ks.length - 1) else lineB (kx ks (i - 1)) (ky ks (i - 1)) (kx ks i) (ky ks i) (kx ks (i + 1)) (ky ks (i + 1)) := rfl
  have HF := Lib.hid fun i hi => fitb_at ks hfit i hi
  have HLt := Lib.hid fun i j h1 h2 => rise_lt ks hrise i j h1 h2
  have HC := Lib.hid hc
  obtain ⟨n, hn⟩ : ∃ n, n = ks.length := ⟨_, rfl⟩
  rw [← hn] at hN hi h32 HF HLt ⊢
  have HN := Lib.hid hn
  clear hn hc hfit he hrise h0
  by_cases h1 : n = 1
  · rw [if_pos h1] at hN
    rw [hN]
    have t0 : decide ((n : Int) < 2) = true := decide_eq_true (by omega)
    clear hN
    have H1 := Lib.hid h1
    clear h1
    go_enter Try.func43, Try.ntmps43
    go_wp2_with fail
    go_ret
    exact ⟨rfl, Below.refl _ _⟩
  · rw [if_neg h1] at hN
    have t0 : decide ((n : Int) < 2) = false := decide_eq_false (by omega)
    by_cases h2 : i = 0
    · rw [if_pos h2] at hN
      subst h2
      have c0 := (HC.out 0 (by rw [← HN.out]; omega)).2
      have c1 := (HC.out 1 (by rw [← HN.out]; omega)).2
      rw [hN]
      obtain ⟨Y0, hY0⟩ : ∃ Y, Y = ky ks 0 := ⟨_, rfl⟩
      obtain ⟨Y1, hY1⟩ : ∃ Y, Y = ky ks 1 := ⟨_, rfl⟩
      rw [← hY0] at c0 ⊢
      rw [← hY1] at c1 ⊢
      clear hN hY0 hY1
      have c0' : w.cell? ⟨b, off + 1, none⟩ = some (.int .i64 Y0) := by simpa using c0
      have c1' : w.cell? ⟨b, off + 2 + 1, none⟩ = some (.int .i64 Y1) := by simpa using c1
      have m0 : (1 : Int) < (n : Int) := by omega
      have m1 : (0 : Int) < (n : Int) := by omega
      have m2 : 1 < n := by omega
      have m3 : 0 < n := by omega
      clear c0 c1
      go_enter Try.func43, Try.ntmps43
      go_wp2_with fail
      go_quiet (fail)
      go_wp2_with fail
      go_ret
      exact ⟨rfl, below_drewN _ _ _⟩
    · rw [if_neg h2] at hN
      have t1 : ((i : Int) == 0) = false := by rw [beq_eq_false_iff_ne]; omega
      by_cases h3 : i = n - 1
      · rw [if_pos h3] at hN
        have t2 : ((i : Int) == (n : Int) - 1) = true := by rw [beq_iff_eq]; omega
        obtain ⟨r, hr⟩ : ∃ q, q = n - 1 - 1 := ⟨_, rfl⟩
        rw [← hr, ← h3] at hN
        have c0 := (HC.out r (by rw [← HN.out]; omega)).2
        have c1 := (HC.out i (by rw [← HN.out]; omega)).2
        rw [hN]
        obtain ⟨Y0, hY0⟩ : ∃ Y, Y = ky ks r := ⟨_, rfl⟩
        obtain ⟨Y1, hY1⟩ : ∃ Y, Y = ky ks i := ⟨_, rfl⟩
        rw [← hY0] at c0 ⊢
        rw [← hY1] at c1 ⊢
        have hsym : (Y0 == Y1) = (Y1 == Y0) := by rw [Bool.eq_iff_iff, beq_iff_eq, beq_iff_eq]; exact eq_comm
        rw [hsym]
        have m1 : (0 : Int) ≤ (i : Int) := by omega
        have m2 : (i : Int) < (n : Int) := by omega
        have m3 : (0 : Int) ≤ (r : Int) := by omega
        have m4 : (r : Int) < (n : Int) := by omega
        have m7 : IntKind.i64.wrap ((i : Int) - 1) = (r : Int) := by
          have := wrap_small ((i : Int) - 1) (by omega) (by omega)
          omega
        have m9 : IntKind.i64.wrap ((n : Int) - 1) = (n : Int) - 1 := IntWalk.i64_in _ ⟨by omega, by omega⟩
        clear hN hY0 hY1 hr h2 h3 hsym
        go_enter Try.func43, Try.ntmps43
        go_wp2_with fail
        go_quiet (fail)
        go_wp2_with fail
        go_ret
        exact ⟨rfl, below_drewN _ _ _⟩
      · rw [if_neg h3] at hN
        have t2 : ((i : Int) == (n : Int) - 1) = false := by rw [beq_eq_false_iff_ne]; omega
        obtain ⟨p, hp⟩ : ∃ p, p = i - 1 := ⟨_, rfl⟩
        obtain ⟨s, hs⟩ : ∃ s, s = i + 1 := ⟨_, rfl⟩
        rw [← hp, ← hs] at hN
        have k0 := HC.out p (by rw [← HN.out]; omega)
        have k1 := HC.out i (by rw [← HN.out]; omega)
        have k2 := HC.out s (by rw [← HN.out]; omega)
        have f0 := HF.out p (by omega)
        have f1 := HF.out i (by omega)
        have f2 := HF.out s (by omega)
        have g1 := HLt.out p i (by omega) (by omega)
        have g2 := HLt.out i s (by omega) (by omega)
        rw [hN]
        obtain ⟨X0, hX0⟩ : ∃ Y, Y = kx ks p := ⟨_, rfl⟩
        obtain ⟨Y0, hY0⟩ : ∃ Y, Y = ky ks p := ⟨_, rfl⟩
        obtain ⟨X1, hX1⟩ : ∃ Y, Y = kx ks i := ⟨_, rfl⟩
        obtain ⟨Y1, hY1⟩ : ∃ Y, Y = ky ks i := ⟨_, rfl⟩
        obtain ⟨X2, hX2⟩ : ∃ Y, Y = kx ks s := ⟨_, rfl⟩
        obtain ⟨Y2, hY2⟩ : ∃ Y, Y = ky ks s := ⟨_, rfl⟩
        rw [← hX0, ← hY0, ← hX1, ← hY1, ← hX2, ← hY2]
        rw [← hX0, ← hY0] at k0 f0
        rw [← hX1, ← hY1] at k1 f1
        rw [← hX2, ← hY2] at k2 f2
        rw [← hX0, ← hX1] at g1
        rw [← hX1, ← hX2] at g2
        obtain ⟨D1, hD1⟩ : ∃ t, t = X1 - X0 := ⟨_, rfl⟩
        obtain ⟨E1, hE1⟩ : ∃ t, t = Y2 - Y1 := ⟨_, rfl⟩
        obtain ⟨D2, hD2⟩ : ∃ t, t = X2 - X1 := ⟨_, rfl⟩
        obtain ⟨E2, hE2⟩ : ∃ t, t = Y1 - Y0 := ⟨_, rfl⟩
        have hP1 := fun w => rproduct_any D1 E1 w (by omega) (by omega) (by omega) (by omega)
        have hP2 := fun w => rproduct_any D2 E2 w (by omega) (by omega) (by omega) (by omega)
        have hz : lineB X0 Y0 X1 Y1 X2 Y2 = decide (D1 * E1 = D2 * E2) := by
          unfold lineB
          rw [hD1, hE1, hD2, hE2, decide_eq_decide, Int.mul_comm (Y1 - Y0), Int.mul_comm (Y2 - Y1)]
          exact eq_comm
        rw [hz, ← two_same]
        simp only [twoW] at hP1 hP2
        obtain ⟨p0, hp0⟩ : ∃ t, t = D1 * E1 / 1000000000000 := ⟨_, rfl⟩
        obtain ⟨p1, hp1⟩ : ∃ t, t = D1 * E1 % 1000000000000 := ⟨_, rfl⟩
        obtain ⟨q0, hq0⟩ : ∃ t, t = D2 * E2 / 1000000000000 := ⟨_, rfl⟩
        obtain ⟨q1, hq1⟩ : ∃ t, t = D2 * E2 % 1000000000000 := ⟨_, rfl⟩
        rw [← hp0, ← hp1] at hP1
        rw [← hq0, ← hq1] at hP2
        rw [← hp0, ← hp1, ← hq0, ← hq1]
        have HP1 := Lib.hid hP1
        have HP2 := Lib.hid hP2
        have e1 : IntKind.i64.wrap (X1 - X0) = D1 := by rw [hD1]; exact IntWalk.i64_in _ ⟨by omega, by omega⟩
        have e2 : IntKind.i64.wrap (Y2 - Y1) = E1 := by rw [hE1]; exact IntWalk.i64_in _ ⟨by omega, by omega⟩
        have e3 : IntKind.i64.wrap (X2 - X1) = D2 := by rw [hD2]; exact IntWalk.i64_in _ ⟨by omega, by omega⟩
        have e4 : IntKind.i64.wrap (Y1 - Y0) = E2 := by rw [hE2]; exact IntWalk.i64_in _ ⟨by omega, by omega⟩
        obtain ⟨a0, b0⟩ := k0
        obtain ⟨a1, b1⟩ := k1
        obtain ⟨a2, b2⟩ := k2
        have m0 : IntKind.i64.wrap ((i : Int) - 1) = (p : Int) := by rw [show (i : Int) - 1 = p by omega]; exact IntWalk.i64_in _ ⟨by omega, by omega⟩
        have m1 : IntKind.i64.wrap ((i : Int) + 1) = (s : Int) := by rw [show (i : Int) + 1 = s by omega]; exact IntWalk.i64_in _ ⟨by omega, by omega⟩
        have m2 : (0 : Int) ≤ (p : Int) := by omega
        have m3 : (p : Int) < (n : Int) := by omega
        have m4 : (0 : Int) ≤ (i : Int) := by omega
        have m5 : (i : Int) < (n : Int) := by omega
        have m6 : (0 : Int) ≤ (s : Int) := by omega
        have m7 : (s : Int) < (n : Int) := by omega
        clear hp hs h1 h2 h3 hX0 hY0 hX1 hY1 hX2 hY2 f0 f1 f2 g1 g2 hN hz hP1 hP2 hp0 hp1 hq0 hq1 hD1 hE1 hD2 hE2
        have n1 : w.heap.size ≠ b := by omega
        have n2 : w.heap.size + 1 ≠ b := by omega
        have n3 : w.heap.size + 1 + 1 ≠ b := by omega
        go_enter Try.func43, Try.ntmps43
        go_wp2_with fail
        go_region_held3 (fun w' => w'.cell? ⟨b, off + p * 2, none⟩ = some (.int .i64 X0) ∧ w'.cell? ⟨b, off + p * 2 + 1, none⟩ = some (.int .i64 Y0) ∧ w'.cell? ⟨b, off + i * 2, none⟩ = some (.int .i64 X1) ∧ w'.cell? ⟨b, off + i * 2 + 1, none⟩ = some (.int .i64 Y1) ∧ w'.cell? ⟨b, off + s * 2, none⟩ = some (.int .i64 X2) ∧ w'.cell? ⟨b, off + s * 2 + 1, none⟩ = some (.int .i64 Y2)) (first | exact ⟨cell_alloc_sl _ (cell_alloc_sl _ (cell_alloc_sl _ a0)), cell_alloc_sl _ (cell_alloc_sl _ (cell_alloc_sl _ b0)), cell_alloc_sl _ (cell_alloc_sl _ (cell_alloc_sl _ a1)), cell_alloc_sl _ (cell_alloc_sl _ (cell_alloc_sl _ b1)), cell_alloc_sl _ (cell_alloc_sl _ (cell_alloc_sl _ a2)), cell_alloc_sl _ (cell_alloc_sl _ (cell_alloc_sl _ b2))⟩ | exact ⟨cell_alloc_sl _ (cell_alloc_sl _ a0), cell_alloc_sl _ (cell_alloc_sl _ b0), cell_alloc_sl _ (cell_alloc_sl _ a1), cell_alloc_sl _ (cell_alloc_sl _ b1), cell_alloc_sl _ (cell_alloc_sl _ a2), cell_alloc_sl _ (cell_alloc_sl _ b2)⟩ | exact ⟨cell_alloc_sl _ a0, cell_alloc_sl _ b0, cell_alloc_sl _ a1, cell_alloc_sl _ b1, cell_alloc_sl _ a2, cell_alloc_sl _ b2⟩ | exact ⟨a0, b0, a1, b1, a2, b2⟩ | (have hh := ‹_ ∧ _ ∧ _ ∧ _ ∧ _ ∧ _›; exact ⟨((World.cell?_setCell_other _ _ _ _ (by first | exact fun e => n1 (congrArg Addr.block e) | exact fun e => n2 (congrArg Addr.block e) | exact fun e => n3 (congrArg Addr.block e))).trans (World.cell?_setCell_other _ _ _ _ (by first | exact fun e => n1 (congrArg Addr.block e) | exact fun e => n2 (congrArg Addr.block e) | exact fun e => n3 (congrArg Addr.block e)))).trans hh.1, ((World.cell?_setCell_other _ _ _ _ (by first | exact fun e => n1 (congrArg Addr.block e) | exact fun e => n2 (congrArg Addr.block e) | exact fun e => n3 (congrArg Addr.block e))).trans (World.cell?_setCell_other _ _ _ _ (by first | exact fun e => n1 (congrArg Addr.block e) | exact fun e => n2 (congrArg Addr.block e) | exact fun e => n3 (congrArg Addr.block e)))).trans hh.2.1, ((World.cell?_setCell_other _ _ _ _ (by first | exact fun e => n1 (congrArg Addr.block e) | exact fun e => n2 (congrArg Addr.block e) | exact fun e => n3 (congrArg Addr.block e))).trans (World.cell?_setCell_other _ _ _ _ (by first | exact fun e => n1 (congrArg Addr.block e) | exact fun e => n2 (congrArg Addr.block e) | exact fun e => n3 (congrArg Addr.block e)))).trans hh.2.2.1, ((World.cell?_setCell_other _ _ _ _ (by first | exact fun e => n1 (congrArg Addr.block e) | exact fun e => n2 (congrArg Addr.block e) | exact fun e => n3 (congrArg Addr.block e))).trans (World.cell?_setCell_other _ _ _ _ (by first | exact fun e => n1 (congrArg Addr.block e) | exact fun e => n2 (congrArg Addr.block e) | exact fun e => n3 (congrArg Addr.block e)))).trans hh.2.2.2.1, ((World.cell?_setCell_other _ _ _ _ (by first | exact fun e => n1 (congrArg Addr.block e) | exact fun e => n2 (congrArg Addr.block e) | exact fun e => n3 (congrArg Addr.block e))).trans (World.cell?_setCell_other _ _ _ _ (by first | exact fun e => n1 (congrArg Addr.block e) | exact fun e => n2 (congrArg Addr.block e) | exact fun e => n3 (congrArg Addr.block e)))).trans hh.2.2.2.2.1, ((World.cell?_setCell_other _ _ _ _ (by first | exact fun e => n1 (congrArg Addr.block e) | exact fun e => n2 (congrArg Addr.block e) | exact fun e => n3 (congrArg Addr.block e))).trans (World.cell?_setCell_other _ _ _ _ (by first | exact fun e => n1 (congrArg Addr.block e) | exact fun e => n2 (congrArg Addr.block e) | exact fun e => n3 (congrArg Addr.block e)))).trans hh.2.2.2.2.2⟩) | go_keep) ((fail))
        all_goals
          rename_i hHeld
          clear hHeld
          go_wp2_with fail
          first
            | (obtain ⟨W2, hW2⟩ : ∃ W2, W2 = (((w.alloc (.cells #[Value.int .i64 X0, Value.int .i64 Y0] 50)).alloc (.cells #[Value.int .i64 X1, Value.int .i64 Y1] 50)).alloc (.cells #[Value.int .i64 X2, Value.int .i64 Y2] 50)).drew := ⟨_, rfl⟩
               rw [← hW2]
               obtain ⟨B2, S2, k1, k2, k3, k4, k5, k6⟩ := three_blocks w w (Below.refl _ _) (.int .i64 X0) (.int .i64 Y0) (.int .i64 X1) (.int .i64 Y1) (.int .i64 X2) (.int .i64 Y2) 50 W2 hW2
               clear hW2
               obtain ⟨pc, h2⟩ : ∃ t, t = w.heap.size + 1 + 1 := ⟨_, rfl⟩
               obtain ⟨pb, h1⟩ : ∃ t, t = w.heap.size + 1 := ⟨_, rfl⟩
               obtain ⟨pa, h0⟩ : ∃ t, t = w.heap.size := ⟨_, rfl⟩
               have l2 : pc < W2.heap.size := by omega
               have l1 : pb < W2.heap.size := by omega
               have l0 : pa < W2.heap.size := by omega
               rw [← h2] at k5 k6
               rw [← h1] at k3 k4
               rw [← h0] at k1 k2
               rw [← h2, ← h1, ← h0]
               clear h0 h1 h2
               obtain ⟨q0, q1, q2, q3, q4, q5, la, lb, lc⟩ : W2.cell? ⟨pa, 0, none⟩ = some (.int .i64 X0) ∧ W2.cell? ⟨pa, 1, none⟩ = some (.int .i64 Y0) ∧ W2.cell? ⟨pb, 0, none⟩ = some (.int .i64 X1) ∧ W2.cell? ⟨pb, 1, none⟩ = some (.int .i64 Y1) ∧ W2.cell? ⟨pc, 0, none⟩ = some (.int .i64 X2) ∧ W2.cell? ⟨pc, 1, none⟩ = some (.int .i64 Y2) ∧ pa < W2.heap.size ∧ pb < W2.heap.size ∧ pc < W2.heap.size := by (repeat' constructor) <;> assumption)
            | (obtain ⟨W2, hW2⟩ : ∃ W2, W2 = (((w.alloc (.cells #[Value.int .i64 X0, Value.int .i64 Y0] 50)).alloc (.cells #[Value.int .i64 X2, Value.int .i64 Y2] 50)).alloc (.cells #[Value.int .i64 X1, Value.int .i64 Y1] 50)).drew := ⟨_, rfl⟩
               rw [← hW2]
               obtain ⟨B2, S2, k1, k2, k3, k4, k5, k6⟩ := three_blocks w w (Below.refl _ _) (.int .i64 X0) (.int .i64 Y0) (.int .i64 X2) (.int .i64 Y2) (.int .i64 X1) (.int .i64 Y1) 50 W2 hW2
               clear hW2
               obtain ⟨pb, h2⟩ : ∃ t, t = w.heap.size + 1 + 1 := ⟨_, rfl⟩
               obtain ⟨pc, h1⟩ : ∃ t, t = w.heap.size + 1 := ⟨_, rfl⟩
               obtain ⟨pa, h0⟩ : ∃ t, t = w.heap.size := ⟨_, rfl⟩
               have l2 : pb < W2.heap.size := by omega
               have l1 : pc < W2.heap.size := by omega
               have l0 : pa < W2.heap.size := by omega
               rw [← h2] at k5 k6
               rw [← h1] at k3 k4
               rw [← h0] at k1 k2
               rw [← h2, ← h1, ← h0]
               clear h0 h1 h2
               obtain ⟨q0, q1, q2, q3, q4, q5, la, lb, lc⟩ : W2.cell? ⟨pa, 0, none⟩ = some (.int .i64 X0) ∧ W2.cell? ⟨pa, 1, none⟩ = some (.int .i64 Y0) ∧ W2.cell? ⟨pb, 0, none⟩ = some (.int .i64 X1) ∧ W2.cell? ⟨pb, 1, none⟩ = some (.int .i64 Y1) ∧ W2.cell? ⟨pc, 0, none⟩ = some (.int .i64 X2) ∧ W2.cell? ⟨pc, 1, none⟩ = some (.int .i64 Y2) ∧ pa < W2.heap.size ∧ pb < W2.heap.size ∧ pc < W2.heap.size := by (repeat' constructor) <;> assumption)
            | (obtain ⟨W2, hW2⟩ : ∃ W2, W2 = (((w.alloc (.cells #[Value.int .i64 X1, Value.int .i64 Y1] 50)).alloc (.cells #[Value.int .i64 X0, Value.int .i64 Y0] 50)).alloc (.cells #[Value.int .i64 X2, Value.int .i64 Y2] 50)).drew := ⟨_, rfl⟩
               rw [← hW2]
               obtain ⟨B2, S2, k1, k2, k3, k4, k5, k6⟩ := three_blocks w w (Below.refl _ _) (.int .i64 X1) (.int .i64 Y1) (.int .i64 X0) (.int .i64 Y0) (.int .i64 X2) (.int .i64 Y2) 50 W2 hW2
               clear hW2
               obtain ⟨pc, h2⟩ : ∃ t, t = w.heap.size + 1 + 1 := ⟨_, rfl⟩
               obtain ⟨pa, h1⟩ : ∃ t, t = w.heap.size + 1 := ⟨_, rfl⟩
               obtain ⟨pb, h0⟩ : ∃ t, t = w.heap.size := ⟨_, rfl⟩
               have l2 : pc < W2.heap.size := by omega
               have l1 : pa < W2.heap.size := by omega
               have l0 : pb < W2.heap.size := by omega
               rw [← h2] at k5 k6
               rw [← h1] at k3 k4
               rw [← h0] at k1 k2
               rw [← h2, ← h1, ← h0]
               clear h0 h1 h2
               obtain ⟨q0, q1, q2, q3, q4, q5, la, lb, lc⟩ : W2.cell? ⟨pa, 0, none⟩ = some (.int .i64 X0) ∧ W2.cell? ⟨pa, 1, none⟩ = some (.int .i64 Y0) ∧ W2.cell? ⟨pb, 0, none⟩ = some (.int .i64 X1) ∧ W2.cell? ⟨pb, 1, none⟩ = some (.int .i64 Y1) ∧ W2.cell? ⟨pc, 0, none⟩ = some (.int .i64 X2) ∧ W2.cell? ⟨pc, 1, none⟩ = some (.int .i64 Y2) ∧ pa < W2.heap.size ∧ pb < W2.heap.size ∧ pc < W2.heap.size := by (repeat' constructor) <;> assumption)
            | (obtain ⟨W2, hW2⟩ : ∃ W2, W2 = (((w.alloc (.cells #[Value.int .i64 X1, Value.int .i64 Y1] 50)).alloc (.cells #[Value.int .i64 X2, Value.int .i64 Y2] 50)).alloc (.cells #[Value.int .i64 X0, Value.int .i64 Y0] 50)).drew := ⟨_, rfl⟩
               rw [← hW2]
               obtain ⟨B2, S2, k1, k2, k3, k4, k5, k6⟩ := three_blocks w w (Below.refl _ _) (.int .i64 X1) (.int .i64 Y1) (.int .i64 X2) (.int .i64 Y2) (.int .i64 X0) (.int .i64 Y0) 50 W2 hW2
               clear hW2
               obtain ⟨pa, h2⟩ : ∃ t, t = w.heap.size + 1 + 1 := ⟨_, rfl⟩
               obtain ⟨pc, h1⟩ : ∃ t, t = w.heap.size + 1 := ⟨_, rfl⟩
               obtain ⟨pb, h0⟩ : ∃ t, t = w.heap.size := ⟨_, rfl⟩
               have l2 : pa < W2.heap.size := by omega
               have l1 : pc < W2.heap.size := by omega
               have l0 : pb < W2.heap.size := by omega
               rw [← h2] at k5 k6
               rw [← h1] at k3 k4
               rw [← h0] at k1 k2
               rw [← h2, ← h1, ← h0]
               clear h0 h1 h2
               obtain ⟨q0, q1, q2, q3, q4, q5, la, lb, lc⟩ : W2.cell? ⟨pa, 0, none⟩ = some (.int .i64 X0) ∧ W2.cell? ⟨pa, 1, none⟩ = some (.int .i64 Y0) ∧ W2.cell? ⟨pb, 0, none⟩ = some (.int .i64 X1) ∧ W2.cell? ⟨pb, 1, none⟩ = some (.int .i64 Y1) ∧ W2.cell? ⟨pc, 0, none⟩ = some (.int .i64 X2) ∧ W2.cell? ⟨pc, 1, none⟩ = some (.int .i64 Y2) ∧ pa < W2.heap.size ∧ pb < W2.heap.size ∧ pc < W2.heap.size := by (repeat' constructor) <;> assumption)
            | (obtain ⟨W2, hW2⟩ : ∃ W2, W2 = (((w.alloc (.cells #[Value.int .i64 X2, Value.int .i64 Y2] 50)).alloc (.cells #[Value.int .i64 X0, Value.int .i64 Y0] 50)).alloc (.cells #[Value.int .i64 X1, Value.int .i64 Y1] 50)).drew := ⟨_, rfl⟩
               rw [← hW2]
               obtain ⟨B2, S2, k1, k2, k3, k4, k5, k6⟩ := three_blocks w w (Below.refl _ _) (.int .i64 X2) (.int .i64 Y2) (.int .i64 X0) (.int .i64 Y0) (.int .i64 X1) (.int .i64 Y1) 50 W2 hW2
               clear hW2
               obtain ⟨pb, h2⟩ : ∃ t, t = w.heap.size + 1 + 1 := ⟨_, rfl⟩
               obtain ⟨pa, h1⟩ : ∃ t, t = w.heap.size + 1 := ⟨_, rfl⟩
               obtain ⟨pc, h0⟩ : ∃ t, t = w.heap.size := ⟨_, rfl⟩
               have l2 : pb < W2.heap.size := by omega
               have l1 : pa < W2.heap.size := by omega
               have l0 : pc < W2.heap.size := by omega
               rw [← h2] at k5 k6
               rw [← h1] at k3 k4
               rw [← h0] at k1 k2
               rw [← h2, ← h1, ← h0]
               clear h0 h1 h2
               obtain ⟨q0, q1, q2, q3, q4, q5, la, lb, lc⟩ : W2.cell? ⟨pa, 0, none⟩ = some (.int .i64 X0) ∧ W2.cell? ⟨pa, 1, none⟩ = some (.int .i64 Y0) ∧ W2.cell? ⟨pb, 0, none⟩ = some (.int .i64 X1) ∧ W2.cell? ⟨pb, 1, none⟩ = some (.int .i64 Y1) ∧ W2.cell? ⟨pc, 0, none⟩ = some (.int .i64 X2) ∧ W2.cell? ⟨pc, 1, none⟩ = some (.int .i64 Y2) ∧ pa < W2.heap.size ∧ pb < W2.heap.size ∧ pc < W2.heap.size := by (repeat' constructor) <;> assumption)
            | (obtain ⟨W2, hW2⟩ : ∃ W2, W2 = (((w.alloc (.cells #[Value.int .i64 X2, Value.int .i64 Y2] 50)).alloc (.cells #[Value.int .i64 X1, Value.int .i64 Y1] 50)).alloc (.cells #[Value.int .i64 X0, Value.int .i64 Y0] 50)).drew := ⟨_, rfl⟩
               rw [← hW2]
               obtain ⟨B2, S2, k1, k2, k3, k4, k5, k6⟩ := three_blocks w w (Below.refl _ _) (.int .i64 X2) (.int .i64 Y2) (.int .i64 X1) (.int .i64 Y1) (.int .i64 X0) (.int .i64 Y0) 50 W2 hW2
               clear hW2
               obtain ⟨pa, h2⟩ : ∃ t, t = w.heap.size + 1 + 1 := ⟨_, rfl⟩
               obtain ⟨pb, h1⟩ : ∃ t, t = w.heap.size + 1 := ⟨_, rfl⟩
               obtain ⟨pc, h0⟩ : ∃ t, t = w.heap.size := ⟨_, rfl⟩
               have l2 : pa < W2.heap.size := by omega
               have l1 : pb < W2.heap.size := by omega
               have l0 : pc < W2.heap.size := by omega
               rw [← h2] at k5 k6
               rw [← h1] at k3 k4
               rw [← h0] at k1 k2
               rw [← h2, ← h1, ← h0]
               clear h0 h1 h2
               obtain ⟨q0, q1, q2, q3, q4, q5, la, lb, lc⟩ : W2.cell? ⟨pa, 0, none⟩ = some (.int .i64 X0) ∧ W2.cell? ⟨pa, 1, none⟩ = some (.int .i64 Y0) ∧ W2.cell? ⟨pb, 0, none⟩ = some (.int .i64 X1) ∧ W2.cell? ⟨pb, 1, none⟩ = some (.int .i64 Y1) ∧ W2.cell? ⟨pc, 0, none⟩ = some (.int .i64 X2) ∧ W2.cell? ⟨pc, 1, none⟩ = some (.int .i64 Y2) ∧ pa < W2.heap.size ∧ pb < W2.heap.size ∧ pc < W2.heap.size := by (repeat' constructor) <;> assumption)
          clear S2 a0 b0 a1 b1 a2 b2 m0 m1 m2 m3 m4 m5 m6 m7 k1 k2 k3 k4 k5 k6 l0 l1 l2 n1 n2 n3
          have HSS := Lib.hid (show W2.cell? ⟨pa, 0, none⟩ = some (.int .i64 X0) ∧ W2.cell? ⟨pa, 1, none⟩ = some (.int .i64 Y0) ∧ W2.cell? ⟨pb, 0, none⟩ = some (.int .i64 X1) ∧ W2.cell? ⟨pb, 1, none⟩ = some (.int .i64 Y1) ∧ W2.cell? ⟨pc, 0, none⟩ = some (.int .i64 X2) ∧ W2.cell? ⟨pc, 1, none⟩ = some (.int .i64 Y2) ∧ W2.heap.size ≤ W2.heap.size ∧ Below w.heap.size w W2 from ⟨q0, q1, q2, q3, q4, q5, Nat.le_refl _, B2⟩)
          have HSS2 := Lib.hid (show W2.drew.cell? ⟨pa, 0, none⟩ = some (.int .i64 X0) ∧ W2.drew.cell? ⟨pa, 1, none⟩ = some (.int .i64 Y0) ∧ W2.drew.cell? ⟨pb, 0, none⟩ = some (.int .i64 X1) ∧ W2.drew.cell? ⟨pb, 1, none⟩ = some (.int .i64 Y1) ∧ W2.drew.cell? ⟨pc, 0, none⟩ = some (.int .i64 X2) ∧ W2.drew.cell? ⟨pc, 1, none⟩ = some (.int .i64 Y2) ∧ W2.heap.size ≤ W2.drew.heap.size ∧ Below w.heap.size w W2.drew from ⟨q0, q1, q2, q3, q4, q5, Nat.le_refl _, B2.trans (below_drewN _ _ 1)⟩)
          clear B2 q0 q1 q2 q3 q4 q5
          go_wp2_with fail
          by_cases c0 : p0 = q0
          · subst c0
            by_cases c1 : p1 = q1
            · subst c1
              go_region_held3 (fun w' => w'.cell? ⟨pa, 0, none⟩ = some (.int .i64 X0) ∧ w'.cell? ⟨pa, 1, none⟩ = some (.int .i64 Y0) ∧ w'.cell? ⟨pb, 0, none⟩ = some (.int .i64 X1) ∧ w'.cell? ⟨pb, 1, none⟩ = some (.int .i64 Y1) ∧ w'.cell? ⟨pc, 0, none⟩ = some (.int .i64 X2) ∧ w'.cell? ⟨pc, 1, none⟩ = some (.int .i64 Y2) ∧ W2.heap.size ≤ w'.heap.size ∧ Below w.heap.size w w')
                (first | exact HSS.out | exact HSS2.out | (have hh := ‹_ ∧ _ ∧ _ ∧ _ ∧ _ ∧ _ ∧ _ ≤ _ ∧ Below _ _ _›; exact ⟨(hb2.cell (p := ⟨pa, 0, none⟩) (Nat.lt_of_lt_of_le la hh.2.2.2.2.2.2.1)).trans hh.1, (hb2.cell (p := ⟨pa, 1, none⟩) (Nat.lt_of_lt_of_le la hh.2.2.2.2.2.2.1)).trans hh.2.1, (hb2.cell (p := ⟨pb, 0, none⟩) (Nat.lt_of_lt_of_le lb hh.2.2.2.2.2.2.1)).trans hh.2.2.1, (hb2.cell (p := ⟨pb, 1, none⟩) (Nat.lt_of_lt_of_le lb hh.2.2.2.2.2.2.1)).trans hh.2.2.2.1, (hb2.cell (p := ⟨pc, 0, none⟩) (Nat.lt_of_lt_of_le lc hh.2.2.2.2.2.2.1)).trans hh.2.2.2.2.1, (hb2.cell (p := ⟨pc, 1, none⟩) (Nat.lt_of_lt_of_le lc hh.2.2.2.2.2.2.1)).trans hh.2.2.2.2.2.1, Nat.le_trans hh.2.2.2.2.2.2.1 hb2.size, hh.2.2.2.2.2.2.2.trans (hb2.mono hh.2.2.2.2.2.2.2.size)⟩) | go_keep)
                (first | (go_at_call_of 45 (Value.int IntKind.i64 D1); refine (HP1.out _).mono ?_; rintro e w2 ⟨rfl, hb2⟩) | (go_at_call_of 45 (Value.int IntKind.i64 D2); refine (HP2.out _).mono ?_; rintro e w2 ⟨rfl, hb2⟩))
              all_goals
                rename_i hHeld
                have HFB := Lib.hid hHeld.2.2.2.2.2.2.2
                clear hHeld
                go_wp2_with fail
                go_ret
                exact ⟨by simp [*], HFB.out⟩
            · have c2 : (p1 == q1) = false := by rw [beq_eq_false_iff_ne]; exact c1
              clear c1
              go_region_held3 (fun w' => w'.cell? ⟨pa, 0, none⟩ = some (.int .i64 X0) ∧ w'.cell? ⟨pa, 1, none⟩ = some (.int .i64 Y0) ∧ w'.cell? ⟨pb, 0, none⟩ = some (.int .i64 X1) ∧ w'.cell? ⟨pb, 1, none⟩ = some (.int .i64 Y1) ∧ w'.cell? ⟨pc, 0, none⟩ = some (.int .i64 X2) ∧ w'.cell? ⟨pc, 1, none⟩ = some (.int .i64 Y2) ∧ W2.heap.size ≤ w'.heap.size ∧ Below w.heap.size w w')
                (first | exact HSS.out | exact HSS2.out | (have hh := ‹_ ∧ _ ∧ _ ∧ _ ∧ _ ∧ _ ∧ _ ≤ _ ∧ Below _ _ _›; exact ⟨(hb2.cell (p := ⟨pa, 0, none⟩) (Nat.lt_of_lt_of_le la hh.2.2.2.2.2.2.1)).trans hh.1, (hb2.cell (p := ⟨pa, 1, none⟩) (Nat.lt_of_lt_of_le la hh.2.2.2.2.2.2.1)).trans hh.2.1, (hb2.cell (p := ⟨pb, 0, none⟩) (Nat.lt_of_lt_of_le lb hh.2.2.2.2.2.2.1)).trans hh.2.2.1, (hb2.cell (p := ⟨pb, 1, none⟩) (Nat.lt_of_lt_of_le lb hh.2.2.2.2.2.2.1)).trans hh.2.2.2.1, (hb2.cell (p := ⟨pc, 0, none⟩) (Nat.lt_of_lt_of_le lc hh.2.2.2.2.2.2.1)).trans hh.2.2.2.2.1, (hb2.cell (p := ⟨pc, 1, none⟩) (Nat.lt_of_lt_of_le lc hh.2.2.2.2.2.2.1)).trans hh.2.2.2.2.2.1, Nat.le_trans hh.2.2.2.2.2.2.1 hb2.size, hh.2.2.2.2.2.2.2.trans (hb2.mono hh.2.2.2.2.2.2.2.size)⟩) | go_keep)
                (first | (go_at_call_of 45 (Value.int IntKind.i64 D1); refine (HP1.out _).mono ?_; rintro e w2 ⟨rfl, hb2⟩) | (go_at_call_of 45 (Value.int IntKind.i64 D2); refine (HP2.out _).mono ?_; rintro e w2 ⟨rfl, hb2⟩))
              all_goals
                rename_i hHeld
                have HFB := Lib.hid hHeld.2.2.2.2.2.2.2
                clear hHeld
                go_wp2_with fail
                go_ret
                exact ⟨by simp [*], HFB.out⟩
          · have c2 : (p0 == q0) = false := by rw [beq_eq_false_iff_ne]; exact c0
            clear c0
            go_region_held3 (fun w' => w'.cell? ⟨pa, 0, none⟩ = some (.int .i64 X0) ∧ w'.cell? ⟨pa, 1, none⟩ = some (.int .i64 Y0) ∧ w'.cell? ⟨pb, 0, none⟩ = some (.int .i64 X1) ∧ w'.cell? ⟨pb, 1, none⟩ = some (.int .i64 Y1) ∧ w'.cell? ⟨pc, 0, none⟩ = some (.int .i64 X2) ∧ w'.cell? ⟨pc, 1, none⟩ = some (.int .i64 Y2) ∧ W2.heap.size ≤ w'.heap.size ∧ Below w.heap.size w w')
              (first | exact HSS.out | exact HSS2.out | (have hh := ‹_ ∧ _ ∧ _ ∧ _ ∧ _ ∧ _ ∧ _ ≤ _ ∧ Below _ _ _›; exact ⟨(hb2.cell (p := ⟨pa, 0, none⟩) (Nat.lt_of_lt_of_le la hh.2.2.2.2.2.2.1)).trans hh.1, (hb2.cell (p := ⟨pa, 1, none⟩) (Nat.lt_of_lt_of_le la hh.2.2.2.2.2.2.1)).trans hh.2.1, (hb2.cell (p := ⟨pb, 0, none⟩) (Nat.lt_of_lt_of_le lb hh.2.2.2.2.2.2.1)).trans hh.2.2.1, (hb2.cell (p := ⟨pb, 1, none⟩) (Nat.lt_of_lt_of_le lb hh.2.2.2.2.2.2.1)).trans hh.2.2.2.1, (hb2.cell (p := ⟨pc, 0, none⟩) (Nat.lt_of_lt_of_le lc hh.2.2.2.2.2.2.1)).trans hh.2.2.2.2.1, (hb2.cell (p := ⟨pc, 1, none⟩) (Nat.lt_of_lt_of_le lc hh.2.2.2.2.2.2.1)).trans hh.2.2.2.2.2.1, Nat.le_trans hh.2.2.2.2.2.2.1 hb2.size, hh.2.2.2.2.2.2.2.trans (hb2.mono hh.2.2.2.2.2.2.2.size)⟩) | go_keep)
              (first | (go_at_call_of 45 (Value.int IntKind.i64 D1); refine (HP1.out _).mono ?_; rintro e w2 ⟨rfl, hb2⟩) | (go_at_call_of 45 (Value.int IntKind.i64 D2); refine (HP2.out _).mono ?_; rintro e w2 ⟨rfl, hb2⟩))
            all_goals
              rename_i hHeld
              have HFB := Lib.hid hHeld.2.2.2.2.2.2.2
              clear hHeld
              go_wp2_with fail
              go_ret
              exact ⟨by simp [*], HFB.out⟩
end Go.Proofs.Ythghcppdfeeloaa
