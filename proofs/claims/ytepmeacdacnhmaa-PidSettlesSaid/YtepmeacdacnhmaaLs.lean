/- The law Settles: what follows a target never passes it, moves by at most the rates, and has reached it after as many scans as Settle says. -/
import Derived.Test.YtepmeacdacnhmaaPx
namespace Go.Proofs.Ytepmeacdacnhmaa
open Go.RowKit

theorem limV_in {l t u d n : Int} (f : Fol l t u d n) (k : Int) (hk : 0 ≤ k) : limV (posI l t (u * n) (d * n) k) t u d n = posI l t (u * n) (d * n) (k + 1) ∧ limE (posI l t (u * n) (d * n) k) t u d n = 0 := by
  obtain ⟨l0, l1, t0, t1, u0, u1, d0, d1, n0, n1⟩ := f
  obtain ⟨U0, _⟩ := rate_bound u n u0 u1 n0 n1
  obtain ⟨D0, _⟩ := rate_bound d n d0 d1 n0 n1
  have r := pos_range l t (u * n) (d * n) k hk U0 D0 l0 l1 t0 t1
  have h := (fol_iff (posI l t (u * n) (d * n) k) t u d n).2 ⟨r.1, r.2, t0, t1, u0, u1, d0, d1, n0, n1⟩
  unfold limV limE
  rw [if_pos h, if_pos h]
  exact ⟨pos_step l t _ _ k U0 D0 hk, rfl⟩
set_option maxHeartbeats 4000000 in
set_option maxRecDepth 100000 in
theorem settles_law (l t u d n : Int) (w : World) : Calls Try.prog 6 #[.int .i64 l, .int .i64 t, .int .i64 u, .int .i64 d, .int .i64 n] w fun e w' => e = .returned (.bool true) ∧ Below w.heap.size w w' := by
  have HAW := Lib.hid awake_yes
  obtain ⟨Z, hZ⟩ : ∃ x, x = setV l t u d n := ⟨_, rfl⟩
  obtain ⟨F, hF⟩ : ∃ x, x = setF l t u d n := ⟨_, rfl⟩
  have K3 := Lib.hid (fun w => show Calls Try.prog 13 #[.int .i64 l, .int .i64 t, .int .i64 u, .int .i64 d, .int .i64 n] w fun e w' => e = .returned (.tuple #[.int .i64 Z, .int .i64 F]) ∧ w = w' by rw [hZ, hF]; exact settle_any l t u d n w)
  by_cases h0 : F = 0
  · subst h0
    by_cases h6 : Z ≤ 60
    · have hf : folB l t u d n = true := by
        by_cases h : folB l t u d n = true
        · exact h
        · unfold setF at hF; rw [if_neg h] at hF; exact absurd hF (by decide)
      have f := (fol_iff l t u d n).1 hf
      have HF := Lib.hid f
      obtain ⟨U0, U1⟩ := rate_bound u n f.u0 f.u1 f.n0 f.n1
      obtain ⟨D0, D1⟩ := rate_bound d n f.d0 f.d1 f.n0 f.n1
      have he : setE (wayI l t) (stepI2 l t (u * n) (d * n)) = 0 := by unfold setF at hF; rw [if_pos hf] at hF; exact hF.symm
      have hz : Z = setN (wayI l t) (stepI2 l t (u * n) (d * n)) := by rw [hZ]; unfold setV; rw [if_pos hf]
      have hz0 : 0 ≤ Z := by rw [hz]; exact setN_nonneg _ _ (way_nonneg _ _) (by unfold stepI2; split <;> omega)
      have HN := Lib.hid (fun (k : Int) (hk : k < Z) (h : 0 ≤ k) => pos_not l t _ _ k U0 D0 he (by rw [← hz]; exact hk) h)
      have HE := Lib.hid (pos_end l t (u * n) (d * n) Z U0 D0 he hz)
      have HW := Lib.hid (fun (k : Int) (h : 0 ≤ k) => pos_way l t (u * n) (d * n) k U0 D0 h)
      have HL := Lib.hid (fun (k : Int) (h : 0 ≤ k) => limV_in f k h)
      have HS := Lib.hid (pos_start l t (u * n) (d * n))
      have w1 : IntKind.i64.wrap (u * n) = u * n := IntWalk.i64_in _ (by omega)
      have w2 : IntKind.i64.wrap (d * n) = d * n := IntWalk.i64_in _ (by omega)
      have HR := Lib.hid (fun (k : Int) (h : 0 ≤ k) => pos_range l t (u * n) (d * n) k h U0 D0 f.l0 f.l1 f.t0 f.t1)
      obtain ⟨f0, f1, f2, f3, f4, f5, f6, f7, f8, f9⟩ := f
      obtain ⟨U, hU⟩ : ∃ x, u * n = x := ⟨_, rfl⟩
      obtain ⟨D, hD⟩ : ∃ x, d * n = x := ⟨_, rfl⟩
      rw [hU] at U0 U1 HN HE HW HL HS w1 HR
      rw [hD] at D0 D1 HN HE HW HL HS w2 HR
      clear hf he hz hZ hF
      obtain ⟨N, rfl⟩ := Int.eq_ofNat_of_zero_le hz0
      have hn6 : N ≤ 60 := by omega
      go_enter Try.func6, Try.ntmps6
      go_wp2_with fail
      refine (K3.out _).mono ?_
      rintro e w' ⟨rfl, rfl⟩
      go_wp2_with fail
      go_loop [13, 14] (fun x i => ∃ k : Nat, k ≤ N ∧ i = .int .i64 k ∧ x = .int .i64 (posI l t U D k)) (fun _ i => N - (intOf i).toNat)
      case atStart => exact ⟨0, by omega, rfl, by rw [show ((0 : Nat) : Int) = 0 from rfl, HS.out]⟩
      case round =>
        obtain ⟨k, hk, rfl, rfl⟩ := hrel
        by_cases hlt : k < N
        · have q0 := HN.out k (by omega) (by omega)
          have q1 := HW.out k (by omega)
          have q2 := HL.out k (by omega)
          have r0 := HR.out k (by omega)
          have r1 := HR.out (k + 1) (by omega)
          obtain ⟨X, hX⟩ : ∃ x, posI l t U D k = x := ⟨_, rfl⟩
          obtain ⟨X', hX'⟩ : ∃ x, posI l t U D (k + 1) = x := ⟨_, rfl⟩
          have HXX := Lib.hid hX'
          rw [hX] at q0 q1 q2 r0 ⊢
          rw [hX'] at q1 q2 r1
          have KL := Lib.hid (fun w => show Calls Try.prog 11 #[.int .i64 X, .int .i64 t, .int .i64 u, .int .i64 d, .int .i64 n] w fun e w' => e = .returned (.tuple #[.int .i64 X', .int .i64 0]) ∧ w = w' by have h := limit_any X t u d n w; rw [q2.1, q2.2] at h; exact h)
          have tq : (X == t) = false := by rw [beq_eq_false_iff_ne]; exact q0
          have g1 : decide (U < X' - X) = false := by rw [decide_eq_false_iff_not]; omega
          have g2 : decide (D < X - X') = false := by rw [decide_eq_false_iff_not]; omega
          clear hX hX' q2 q0
          go_wp2_with fail
          refine (KL.out _).mono ?_
          rintro e w' ⟨rfl, rfl⟩
          by_cases ha : l ≤ t <;> by_cases hb2 : t ≤ l
          all_goals
            have e1 : decide (l ≤ t) = decide (l ≤ t) := rfl
            have c1 : l ≤ t → decide (X' < X) = false := fun h => by rw [decide_eq_false_iff_not]; have := q1.2.2.1 h; omega
            have c2 : l ≤ t → decide (t < X') = false := fun h => by rw [decide_eq_false_iff_not]; have := q1.2.2.1 h; omega
            have c3 : t ≤ l → decide (X < X') = false := fun h => by rw [decide_eq_false_iff_not]; have := q1.2.2.2 h; omega
            have c4 : t ≤ l → decide (X' < t) = false := fun h => by rw [decide_eq_false_iff_not]; have := q1.2.2.2 h; omega
            clear q1 e1
            go_wp2_with fail
          all_goals
            go_round
            case rel => exact ⟨k + 1, by omega, by go_num, by rw [show ((k + 1 : Nat) : Int) = (k : Int) + 1 from rfl, HXX.out]⟩
            case measure => (simp [intOf]) <;> omega
        · obtain rfl : k = N := by omega
          have hE := HE.out
          rw [hE]
          go_wp2_with fail
          refine (HAW.out _).mono ?_
          rintro e w1 ⟨rfl, hb⟩
          go_wp2_with fail
          go_ret
          exact ⟨rfl, hb⟩
    · clear hZ
      go_enter Try.func6, Try.ntmps6
      go_wp2_with fail
      refine (K3.out _).mono ?_
      rintro e w' ⟨rfl, rfl⟩
      go_wp2_with fail
      refine (HAW.out _).mono ?_
      rintro e w1 ⟨rfl, hb⟩
      go_wp2_with fail
      go_ret
      exact ⟨rfl, hb⟩
  · have t1 : (F != 0) = true := by simpa using h0
    clear hF hZ
    go_enter Try.func6, Try.ntmps6
    go_wp2_with fail
    refine (K3.out _).mono ?_
    rintro e w' ⟨rfl, rfl⟩
    go_wp2_with fail
    refine (HAW.out _).mono ?_
    rintro e w1 ⟨rfl, hb⟩
    go_wp2_with fail
    go_ret
    exact ⟨rfl, hb⟩
end Go.Proofs.Ytepmeacdacnhmaa
