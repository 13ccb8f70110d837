/- Contracts of package wide, the second part: complement, Divided, Int64. -/
import Derived.Test.YtlahoohgbfjciaaGreatDoorWi
import Derived.Deep.RegionHeld3
import Derived.IntWalk
namespace Go.Proofs.YtlahoohgbfjciaaGreatDoor
open Go.RowKit Go.Shelf

set_option maxHeartbeats 400000 in
theorem wcompl_any (V : Int) (w : World) :
    Calls Tryz.prog 42 #[pairV V] w fun e w' => e = .returned (pairV (-1 - V)) ∧ Below w.heap.size w w' := by
  have r1 := hiW_range V
  have r2 := loW_range V
  have hc := compl_words V
  have x1 := compl_word (hiW V) r1.1 r1.2
  have x2 := compl_word (loW V) r2.1 r2.2
  rw [hc.1] at x1
  rw [hc.2] at x2
  obtain ⟨h, hh⟩ : ∃ h, h = hiW (-1 - V) := ⟨_, rfl⟩
  obtain ⟨l, hl⟩ : ∃ l, l = loW (-1 - V) := ⟨_, rfl⟩
  simp only [pairV, wordsV]
  rw [← hh, ← hl]
  rw [← hh] at x1
  rw [← hl] at x2
  clear hc hh hl
  have hsg : IntKind.u64.signed = false := rfl
  generalize hiW V = v1, loW V = v0 at *
  go_enter Tryz.func42, Tryz.ntmps42
  go_wp2
  exact bodyPost_ret (v := wordsV h l) (by simp [results, Tryz.results42, go_sem, wordsV]) rfl ⟨rfl, ((Below.refl _ _).alloc (Nat.le_refl _) _).alloc (by rw [World.size_alloc]; omega) _⟩

/-- two new blocks of two cells, nothing drawn -/
theorem two_blocks0 (w : World) (u v u' v' : Value) (t t' : TypeId) (w1 : World) (hb : Below ((w.alloc (.cells #[u, v] t)).alloc (.cells #[u', v'] t')).heap.size ((w.alloc (.cells #[u, v] t)).alloc (.cells #[u', v'] t')) w1) :
    Below w.heap.size w w1 ∧ w.heap.size + 1 < w1.heap.size ∧ w1.cell? ⟨w.heap.size, 0, none⟩ = some u ∧ w1.cell? ⟨w.heap.size, 1, none⟩ = some v ∧
    w1.cell? ⟨w.heap.size + 1, 0, none⟩ = some u' ∧ w1.cell? ⟨w.heap.size + 1, 1, none⟩ = some v' ∧ w1.frozen? ⟨w.heap.size + 1, 0, none⟩ = false ∧ w1.frozen? ⟨w.heap.size + 1, 1, none⟩ = false := by
  have e := World.size_alloc w (.cells #[u, v] t)
  have e2 := World.size_alloc (w.alloc (.cells #[u, v] t)) (.cells #[u', v'] t')
  have l0 : w.heap.size < ((w.alloc (.cells #[u, v] t)).alloc (.cells #[u', v'] t')).heap.size := by omega
  have l1 : w.heap.size + 1 < ((w.alloc (.cells #[u, v] t)).alloc (.cells #[u', v'] t')).heap.size := by omega
  have B0 : Below w.heap.size w ((w.alloc (.cells #[u, v] t)).alloc (.cells #[u', v'] t')) := ((Below.refl _ w).alloc (Nat.le_refl _) _).alloc (by omega) _
  refine ⟨B0.trans (hb.mono B0.size), Nat.lt_of_lt_of_le l1 hb.size, (hb.cell (p := ⟨w.heap.size, 0, none⟩) l0).trans (cell_alloc_sl _ (cell_two0 _ _ _ _)), (hb.cell (p := ⟨w.heap.size, 1, none⟩) l0).trans (cell_alloc_sl _ (cell_two1 _ _ _ _)), ?_, ?_, ?_, ?_⟩
  · refine (hb.cell (p := ⟨w.heap.size + 1, 0, none⟩) l1).trans ?_
    have h := cell_two0 (w.alloc (.cells #[u, v] t)) u' v' t'
    rw [e] at h; exact h
  · refine (hb.cell (p := ⟨w.heap.size + 1, 1, none⟩) l1).trans ?_
    have h := cell_two1 (w.alloc (.cells #[u, v] t)) u' v' t'
    rw [e] at h; exact h
  · refine (hb.frozen (p := ⟨w.heap.size + 1, 0, none⟩) l1).trans ?_
    rw [← e]; simp
  · refine (hb.frozen (p := ⟨w.heap.size + 1, 1, none⟩) l1).trans ?_
    rw [← e]; simp

theorem div_words (V d : Nat) (hV : V < 340282366920938463463374607431768211456) (h0 : 0 < d) :
    V / d = V / 18446744073709551616 / d * 18446744073709551616 + (V / 18446744073709551616 % d * 18446744073709551616 + V % 18446744073709551616) / d ∧
    (V / 18446744073709551616 % d * 18446744073709551616 + V % 18446744073709551616) / d < 18446744073709551616 ∧ V / 18446744073709551616 / d < 18446744073709551616 ∧
    V % d = (V / 18446744073709551616 % d * 18446744073709551616 + V % 18446744073709551616) % d := by
  obtain ⟨h, hh⟩ : ∃ h, h = V / 18446744073709551616 := ⟨_, rfl⟩
  obtain ⟨l, hl⟩ : ∃ l, l = V % 18446744073709551616 := ⟨_, rfl⟩
  have hVe : V = h * 18446744073709551616 + l := by omega
  rw [← hh, ← hl]
  have hq := Nat.div_add_mod h d
  obtain ⟨q, hqe⟩ : ∃ q, q = h / d := ⟨_, rfl⟩
  obtain ⟨r, hre⟩ : ∃ r, r = h % d := ⟨_, rfl⟩
  have hr : r < d := by rw [hre]; exact Nat.mod_lt _ h0
  rw [← hqe, ← hre] at hq ⊢
  have hVe2 : V = r * 18446744073709551616 + l + d * (q * 18446744073709551616) := by
    rw [hVe, ← hq, Nat.add_mul, Nat.mul_assoc]; omega
  have hqle : q ≤ h := by rw [hqe]; exact Nat.div_le_self _ _
  refine ⟨?_, ?_, by omega, ?_⟩
  · rw [hVe2, Nat.add_mul_div_left _ _ h0]; omega
  · rw [Nat.div_lt_iff_lt_mul h0]
    have : (r + 1) * 18446744073709551616 ≤ d * 18446744073709551616 := Nat.mul_le_mul_right _ hr
    rw [Nat.add_mul] at this
    rw [Nat.mul_comm 18446744073709551616 d]
    omega
  · rw [hVe2, Nat.add_mul_mod_self_left]

set_option maxHeartbeats 1000000 in
theorem wdiv_pos (V d : Nat) (w : World) (hV : V < 170141183460469231731687303715884105728) (h0 : 0 < d) (hd : d < 9223372036854775808) :
    Calls Tryz.prog 29 #[pairV (V : Int), .int .i64 d] w fun e w' => e = .returned (.tuple #[pairV ((V / d : Nat) : Int), .int .i64 ((V % d : Nat) : Int)]) ∧ Below w.heap.size w w' := by
  have hne := wnegative_any (V : Int) (h1 := by omega) (h2 := by omega)
  rw [decide_eq_false (by omega)] at hne
  have HNe := Lib.hid hne
  clear hne
  obtain ⟨u1, u2, u3, u4⟩ := div_words V d (by omega) h0
  have hq : V / d < 340282366920938463463374607431768211456 := by omega
  obtain ⟨v1, hv1⟩ : ∃ v, v = V / 18446744073709551616 := ⟨_, rfl⟩
  obtain ⟨v0, hv0⟩ : ∃ v, v = V % 18446744073709551616 := ⟨_, rfl⟩
  rw [← hv1, ← hv0] at u1 u2 u4
  rw [← hv1] at u3
  obtain ⟨r, hr⟩ : ∃ r, r = v1 % d := ⟨_, rfl⟩
  have hrd : r < d := by rw [hr]; exact Nat.mod_lt _ h0
  obtain ⟨q1, hq1⟩ : ∃ q, q = v1 / d := ⟨_, rfl⟩
  obtain ⟨q0, hq0⟩ : ∃ q, q = (r * 18446744073709551616 + v0) / d := ⟨_, rfl⟩
  obtain ⟨m, hm⟩ : ∃ m, m = (r * 18446744073709551616 + v0) % d := ⟨_, rfl⟩
  have hmd : m < d := by rw [hm]; exact Nat.mod_lt _ h0
  rw [← hr, ← hq0, ← hq1] at u1
  rw [← hr, ← hq0] at u2
  rw [← hr, ← hm] at u4
  rw [← hq1] at u3
  rw [pairV, hiW_nat V (by omega), loW_nat, ← hv1, ← hv0] at HNe
  rw [pairV, pairV, hiW_nat V (by omega), loW_nat, hiW_nat _ hq, loW_nat, ← hv1, ← hv0, show V / d / 18446744073709551616 = q1 by omega, show V / d % 18446744073709551616 = q0 by omega, u4]
  have hD := fun w => div64_any (r : Int) (v0 : Int) (d : Int) w (by omega) (by omega) (by omega) (by omega) (by omega)
  rw [show ((r : Int) * 18446744073709551616 + (v0 : Int)) / (d : Int) = (q0 : Int) by rw [hq0]; rfl, show ((r : Int) * 18446744073709551616 + (v0 : Int)) % (d : Int) = (m : Int) by rw [hm]; rfl] at hD
  have HD := Lib.hid hD
  have e1 : (v1 : Int) % (d : Int) = (r : Int) := by rw [hr]; rfl
  have e2 : (v1 : Int) / (d : Int) = (q1 : Int) := by rw [hq1]; rfl
  have e3 : (v1 : Int).tmod (d : Int) = (r : Int) := by rw [Int.tmod_eq_emod_of_nonneg (by omega)]; exact e1
  have e4 : (v1 : Int).tdiv (d : Int) = (q1 : Int) := by rw [Int.tdiv_eq_ediv_of_nonneg (by omega)]; exact e2
  have n1 : ¬ (d : Int) = 0 := by omega
  have n2 : ¬ d = 0 := by omega
  have g1 : v1 < 18446744073709551616 := by omega
  have g0 : v0 < 18446744073709551616 := by omega
  simp only [wordsV] at HNe ⊢
  clear hD hr hq1 hq0 hm hv1 hv0 u1 u4 hq hV
  go_enter Tryz.func29, Tryz.ntmps29
  go_wp2_with fail
  refine (HNe.out _).mono ?_
  rintro e w1 ⟨rfl, hb⟩
  obtain ⟨B1, l1, c0, c1, z0, z1, f0, f1⟩ := two_blocks0 w _ _ _ _ _ _ w1 hb
  have HB1 := Lib.hid B1
  clear hb B1 HNe
  go_wp2_with fail
  go_region_held3 (fun w' => w'.cell? ⟨w.heap.size, 0, none⟩ = some (.int .u64 v1) ∧ w'.cell? ⟨w.heap.size, 1, none⟩ = some (.int .u64 v0))
    (first | go_keep | exact ⟨(hb2.cell (p := ⟨w.heap.size, 0, none⟩) (Nat.lt_trans (Nat.lt_succ_self _) l1)).trans c0, (hb2.cell (p := ⟨w.heap.size, 1, none⟩) (Nat.lt_trans (Nat.lt_succ_self _) l1)).trans c1⟩)
    (first | (go_at_call 43; refine (HD.out _).mono ?_; rintro e w2 ⟨rfl, hb2⟩))
  all_goals
    rename_i hHeld
    clear hHeld
    have l0 : w.heap.size < w1.heap.size := Nat.lt_trans (Nat.lt_succ_self _) l1
    have k0 := (hb2.cell (p := ⟨w.heap.size, 0, none⟩) l0).trans c0
    have k1 := (hb2.cell (p := ⟨w.heap.size, 1, none⟩) l0).trans c1
    have k2 := (hb2.cell (p := ⟨w.heap.size + 1, 0, none⟩) l1).trans z0
    have k3 := (hb2.cell (p := ⟨w.heap.size + 1, 1, none⟩) l1).trans z1
    have k4 := (hb2.frozen (p := ⟨w.heap.size + 1, 0, none⟩) l1).trans f0
    have k5 := (hb2.frozen (p := ⟨w.heap.size + 1, 1, none⟩) l1).trans f1
    have B2 := Lib.hid (HB1.out.trans ((Below.refl w.heap.size w1).drew.trans (hb2.mono HB1.out.size)))
    clear hb2 c0 c1 z0 z1 f0 f1 HD HB1 l1 l0
    have y0 : (w2.setCell ⟨w.heap.size + 1, 0, none⟩ (.int .u64 q1)).cell? ⟨w.heap.size + 1, 0, none⟩ = some (.int .u64 q1) := World.cell?_setCell_same _ _ _ k2
    have y2 : (w2.setCell ⟨w.heap.size + 1, 0, none⟩ (.int .u64 q1)).cell? ⟨w.heap.size + 1, 1, none⟩ = some (.int .u64 0) := (World.cell?_setCell_other _ _ _ _ (by simp)).trans k3
    have y1 : ((w2.setCell ⟨w.heap.size + 1, 0, none⟩ (.int .u64 q1)).setCell ⟨w.heap.size + 1, 1, none⟩ (.int .u64 q0)).cell? ⟨w.heap.size + 1, 1, none⟩ = some (.int .u64 q0) := World.cell?_setCell_same _ _ _ y2
    have HY := Lib.hid (And.intro y0 y1)
    clear y0 y1 y2
    go_wp2_with fail
    (try simp only [Exit.inBlock, Exit.then])
    obtain ⟨y0, y1⟩ := HY.out
    refine bodyPost_ret (by simp [results, Tryz.results29, go_sem, y0, y1]; try rfl) rfl ?_
    exact ⟨rfl, (B2.out.setCell (Nat.le_succ _) _).setCell (Nat.le_succ _) _⟩

set_option maxHeartbeats 1000000 in
theorem wdiv_neg (V : Int) (d : Nat) (w : World) (hV : -170141183460469231731687303715884105728 ≤ V) (hneg : V < 0) (h0 : 0 < d) (hd : d < 9223372036854775808) :
    Calls Tryz.prog 29 #[pairV V, .int .i64 d] w fun e w' => e = .returned (.tuple #[pairV (V / d), .int .i64 (V % d)]) ∧ Below w.heap.size w w' := by
  have hne := wnegative_any V (h1 := hV) (h2 := by omega)
  rw [decide_eq_true hneg] at hne
  have HNe := Lib.hid hne
  clear hne
  have hcm := fun w => wcompl_any V w
  obtain ⟨n, hn⟩ : ∃ n : Nat, (n : Int) = -1 - V := ⟨(-1 - V).toNat, by omega⟩
  rw [← hn] at hcm
  have hdv := fun w => wdiv_pos n d w (by omega) h0 hd
  obtain ⟨Q, hQ⟩ : ∃ Q, Q = n / d := ⟨_, rfl⟩
  obtain ⟨R, hR⟩ : ∃ R, R = n % d := ⟨_, rfl⟩
  have hRd : R < d := by rw [hR]; exact Nat.mod_lt _ h0
  have hsum := Nat.div_add_mod n d
  rw [← hQ, ← hR] at hdv hsum
  have hcq := fun w => wcompl_any (Q : Int) w
  have e1 : V / (d : Int) = -1 - (Q : Int) ∧ V % (d : Int) = (d : Int) - 1 - R := by
    have hVe : V = ((d : Int) - 1 - R) + (d : Int) * (-1 - Q) := by
      have h1 : (n : Int) = (d : Int) * Q + R := by rw [← hsum]; simp
      rw [Int.mul_sub, Int.mul_neg, Int.mul_one]
      generalize (d : Int) * (Q : Int) = P at *
      omega
    constructor
    · rw [hVe, Int.add_mul_ediv_left _ _ (by omega), Int.ediv_eq_zero_of_lt (by omega) (by omega)]; omega
    · rw [hVe, Int.add_mul_emod_self_left, Int.emod_eq_of_lt (by omega) (by omega)]
  rw [e1.1, e1.2]
  have HC := Lib.hid hcm
  have HD := Lib.hid hdv
  have HQ := Lib.hid hcq
  have g1 : wrap64 ((d : Int) - 1) = (d : Int) - 1 := by unfold wrap64; omega
  have g2 : wrap64 ((d : Int) - 1 - R) = (d : Int) - 1 - R := by unfold wrap64; omega
  clear hcm hdv hcq hsum hQ hR e1 hn
  simp only [pairV, wordsV] at HNe HC HD HQ ⊢
  generalize hiW V = v1, loW V = v0 at *
  generalize hiW (n : Int) = n1, loW (n : Int) = n0 at *
  generalize hiW (Q : Int) = q1, loW (Q : Int) = q0 at *
  generalize hiW (-1 - (Q : Int)) = p1, loW (-1 - (Q : Int)) = p0 at *
  go_enter Tryz.func29, Tryz.ntmps29
  go_wp2_with fail
  refine (HNe.out _).mono ?_
  rintro e w1 ⟨rfl, hb⟩
  obtain ⟨B1, l1, c0, c1, z0, z1, f0, f1⟩ := two_blocks0 w _ _ _ _ _ _ w1 hb
  have HB1 := Lib.hid B1
  clear hb B1 HNe
  go_wp2_with fail
  refine (HC.out _).mono ?_
  rintro e w2 ⟨rfl, hb⟩
  have z0_2 := (hb.cell (p := ⟨w.heap.size + 1, 0, none⟩) l1).trans z0
  have z1_2 := (hb.cell (p := ⟨w.heap.size + 1, 1, none⟩) l1).trans z1
  have f0_2 := (hb.frozen (p := ⟨w.heap.size + 1, 0, none⟩) l1).trans f0
  have f1_2 := (hb.frozen (p := ⟨w.heap.size + 1, 1, none⟩) l1).trans f1
  have l2 := Nat.lt_of_lt_of_le l1 hb.size
  have HB2 := Lib.hid (HB1.out.trans (hb.mono HB1.out.size))
  clear hb HC z0 z1 f0 f1 l1 HB1 c0 c1
  go_wp2_with fail
  refine (HD.out _).mono ?_
  rintro e w3 ⟨rfl, hb⟩
  have z0_3 := (hb.cell (p := ⟨w.heap.size + 1, 0, none⟩) l2).trans z0_2
  have z1_3 := (hb.cell (p := ⟨w.heap.size + 1, 1, none⟩) l2).trans z1_2
  have f0_3 := (hb.frozen (p := ⟨w.heap.size + 1, 0, none⟩) l2).trans f0_2
  have f1_3 := (hb.frozen (p := ⟨w.heap.size + 1, 1, none⟩) l2).trans f1_2
  have l3 := Nat.lt_of_lt_of_le l2 hb.size
  have HB3 := Lib.hid (HB2.out.trans (hb.mono HB2.out.size))
  clear hb HD z0_2 z1_2 f0_2 f1_2 l2 HB2
  go_wp2_with fail
  refine (HQ.out _).mono ?_
  rintro e w4 ⟨rfl, hb⟩
  have l4 : w.heap.size + 1 < (w3.alloc (.cells #[.int .u64 q1, .int .u64 q0] 36)).heap.size := by rw [World.size_alloc]; omega
  have z0_4 := (hb.cell (p := ⟨w.heap.size + 1, 0, none⟩) l4).trans (cell_alloc_sl _ z0_3)
  have z1_4 := (hb.cell (p := ⟨w.heap.size + 1, 1, none⟩) l4).trans (cell_alloc_sl _ z1_3)
  have f0_4 := (hb.frozen (p := ⟨w.heap.size + 1, 0, none⟩) l4).trans ((World.frozen?_alloc_past _ _ _ l3).trans f0_3)
  have f1_4 := (hb.frozen (p := ⟨w.heap.size + 1, 1, none⟩) l4).trans ((World.frozen?_alloc_past _ _ _ l3).trans f1_3)
  have HB4 := Lib.hid ((HB3.out.alloc HB3.out.size _).trans (hb.mono (by rw [World.size_alloc]; exact Nat.le_succ_of_le HB3.out.size)))
  clear hb HQ z0_3 z1_3 f0_3 f1_3 l3 HB3 l4
  have y0 : (w4.setCell ⟨w.heap.size + 1, 0, none⟩ (.int .u64 p1)).cell? ⟨w.heap.size + 1, 0, none⟩ = some (.int .u64 p1) := World.cell?_setCell_same _ _ _ z0_4
  have y2 : (w4.setCell ⟨w.heap.size + 1, 0, none⟩ (.int .u64 p1)).cell? ⟨w.heap.size + 1, 1, none⟩ = some (.int .u64 0) := (World.cell?_setCell_other _ _ _ _ (by simp)).trans z1_4
  have y1 : ((w4.setCell ⟨w.heap.size + 1, 0, none⟩ (.int .u64 p1)).setCell ⟨w.heap.size + 1, 1, none⟩ (.int .u64 p0)).cell? ⟨w.heap.size + 1, 1, none⟩ = some (.int .u64 p0) := World.cell?_setCell_same _ _ _ y2
  have HY := Lib.hid (And.intro y0 y1)
  clear y0 y1 y2
  go_wp2_with fail
  (try simp only [Exit.inBlock, Exit.then])
  obtain ⟨y0, y1⟩ := HY.out
  refine bodyPost_ret (by simp [results, Tryz.results29, go_sem, y0, y1]; try rfl) rfl ?_
  exact ⟨rfl, (HB4.out.setCell (Nat.le_succ _) _).setCell (Nat.le_succ _) _⟩

theorem wdiv_any (V : Int) (d : Nat) (w : World) (h1 : -170141183460469231731687303715884105728 ≤ V) (h2 : V < 170141183460469231731687303715884105728) (h0 : 0 < d) (hd : d < 9223372036854775808) :
    Calls Tryz.prog 29 #[pairV V, .int .i64 d] w fun e w' => e = .returned (.tuple #[pairV (V / d), .int .i64 (V % d)]) ∧ Below w.heap.size w w' := by
  by_cases hs : V < 0
  · exact wdiv_neg V d w h1 hs h0 hd
  · obtain ⟨n, rfl⟩ := Int.eq_ofNat_of_zero_le (show 0 ≤ V by omega)
    exact wdiv_pos n d w (by omega) h0 hd
end Go.Proofs.YtlahoohgbfjciaaGreatDoor
