/- Contracts of units.None, checkFactors, limited, inverse. -/
import Derived.Test.YtlahoohgbfjciaaGreatDoorUc
namespace Go.Proofs.YtlahoohgbfjciaaGreatDoor
open Go.RowKit Go.Shelf

set_option maxHeartbeats 400000 in
theorem none_any (w : World) : Calls Tryz.prog 55 #[] w fun e w' => e = .returned (.agg #[.int .i64 0, .int .i64 0, .int .i64 0, .int .i64 0, .int .i64 1, .int .i64 1, .int .i64 0]) ∧ Below w.heap.size w w' := by
  go_enter Tryz.func55, Tryz.ntmps55
  go_wp2
  exact bodyPost_ret (v := .agg #[.int .i64 0, .int .i64 0, .int .i64 0, .int .i64 0, .int .i64 1, .int .i64 1, .int .i64 0]) (by simp [results, Tryz.results55, go_sem]) rfl ⟨rfl, (Below.refl _ _).alloc (Nat.le_refl _) _⟩

def checkFE (u v : UnitD) : Int := if validB u = false ∨ validB v = false then 1 else if u.o ≠ 0 ∨ v.o ≠ 0 then 11 else 0

set_option maxHeartbeats 2000000 in
theorem checkFactors_any (e0 e1 e2 e3 n d o f0 f1 f2 f3 m c p : Int) (w : World) :
    Calls Tryz.prog 60 #[.agg #[.int .i64 e0, .int .i64 e1, .int .i64 e2, .int .i64 e3, .int .i64 n, .int .i64 d, .int .i64 o], .agg #[.int .i64 f0, .int .i64 f1, .int .i64 f2, .int .i64 f3, .int .i64 m, .int .i64 c, .int .i64 p]] w fun e w' => e = .returned (.int .i64 (checkFE ⟨e0, e1, e2, e3, n, d, o⟩ ⟨f0, f1, f2, f3, m, c, p⟩)) ∧ Below w.heap.size w w' := by
  have hV1 := fun w' => valid_any e0 e1 e2 e3 n d o w'
  have hV2 := fun w' => valid_any f0 f1 f2 f3 m c p w'
  obtain ⟨Z, hZ⟩ : ∃ Z, Z = checkFE ⟨e0, e1, e2, e3, n, d, o⟩ ⟨f0, f1, f2, f3, m, c, p⟩ := ⟨_, rfl⟩
  have hC : Z = if validB ⟨e0, e1, e2, e3, n, d, o⟩ = false ∨ validB ⟨f0, f1, f2, f3, m, c, p⟩ = false then 1 else if o ≠ 0 ∨ p ≠ 0 then 11 else 0 := hZ
  rw [← hZ]
  obtain ⟨Z1, hZ1⟩ : ∃ Z, Z = validB ⟨e0, e1, e2, e3, n, d, o⟩ := ⟨_, rfl⟩
  obtain ⟨Z2, hZ2⟩ : ∃ Z, Z = validB ⟨f0, f1, f2, f3, m, c, p⟩ := ⟨_, rfl⟩
  rw [← hZ1] at hV1 hC
  rw [← hZ2] at hV2 hC
  have HC := Lib.hid hC
  have u0 := unit_fresh w e0 e1 e2 e3 n d o
  have b0 := (Below.refl w.heap.size w).alloc (Nat.le_refl _) (Obj.cells #[.int .i64 e0, .int .i64 e1, .int .i64 e2, .int .i64 e3, .int .i64 n, .int .i64 d, .int .i64 o] 28)
  have sz := World.size_alloc w (Obj.cells #[.int .i64 e0, .int .i64 e1, .int .i64 e2, .int .i64 e3, .int .i64 n, .int .i64 d, .int .i64 o] 28)
  have r0 := unit_fresh (w.alloc (Obj.cells #[.int .i64 e0, .int .i64 e1, .int .i64 e2, .int .i64 e3, .int .i64 n, .int .i64 d, .int .i64 o] 28)) f0 f1 f2 f3 m c p
  rw [sz] at r0
  have b1 := b0.alloc b0.size (Obj.cells #[.int .i64 f0, .int .i64 f1, .int .i64 f2, .int .i64 f3, .int .i64 m, .int .i64 c, .int .i64 p] 28)
  have u1 := u0.keep ((Below.refl _ _).alloc (Nat.le_refl _) (Obj.cells #[.int .i64 f0, .int .i64 f1, .int .i64 f2, .int .i64 f3, .int .i64 m, .int .i64 c, .int .i64 p] 28))
  obtain ⟨W, hW⟩ : ∃ W, W = (w.alloc (Obj.cells #[.int .i64 e0, .int .i64 e1, .int .i64 e2, .int .i64 e3, .int .i64 n, .int .i64 d, .int .i64 o] 28)).alloc (Obj.cells #[.int .i64 f0, .int .i64 f1, .int .i64 f2, .int .i64 f3, .int .i64 m, .int .i64 c, .int .i64 p] 28) := ⟨_, rfl⟩
  rw [← hW] at r0 b1 u1
  obtain ⟨g, hg⟩ : ∃ g, g = w.heap.size := ⟨_, rfl⟩
  obtain ⟨h, hh⟩ : ∃ R, R = w.heap.size + 1 := ⟨_, rfl⟩
  rw [← hg] at u1
  rw [← hh] at r0
  have U1 := Lib.hid u1
  have R1 := Lib.hid r0
  have B1 := Lib.hid b1
  have HW := Lib.hid hW
  have HG := Lib.hid (And.intro hg hh)
  have HV1 := Lib.hid hV1
  have HV2 := Lib.hid hV2
  clear u0 b0 sz r0 b1 u1 hW hg hh hC hZ hZ1 hZ2 hV1 hV2
  obtain ⟨u0, u1, u2, u3, u4, u5, u6, uz⟩ := U1.out
  have pre : True := trivial
  cases Z1
  · have HF := Lib.hid (show Z = 1 by rw [HC.out, if_pos (.inl rfl)])
    go_enter Tryz.func60, Tryz.ntmps60
    go_wp2_with fail
    rw [← HG.out.2, ← HG.out.1, ← HW.out]
    refine (HV1.out _).mono ?_
    rintro e w1 ⟨rfl, hb⟩
    have B2 := Lib.hid (B1.out.trans (hb.mono B1.out.size))
    clear hb u0 u1 u2 u3 u4 u5 u6 uz
    go_wp2_with fail
    go_ret
    exact ⟨by rw [HF.out]; rfl, B2.out⟩
  · cases Z2
    · have HF := Lib.hid (show Z = 1 by rw [HC.out, if_pos (.inr rfl)])
      go_enter Tryz.func60, Tryz.ntmps60
      go_wp2_with fail
      rw [← HG.out.2, ← HG.out.1, ← HW.out]
      refine (HV1.out _).mono ?_
      rintro e w1 ⟨rfl, hb⟩
      have R2 := Lib.hid (R1.out.keep hb)
      have U2 := Lib.hid (U1.out.keep hb)
      have B2 := Lib.hid (B1.out.trans (hb.mono B1.out.size))
      clear hb u0 u1 u2 u3 u4 u5 u6 uz
      obtain ⟨q0, q1, q2, q3, q4, q5, q6, qz⟩ := R2.out
      go_wp2_with fail
      refine (HV2.out _).mono ?_
      rintro e w2 ⟨rfl, hb⟩
      have R3 := Lib.hid (R2.out.keep hb)
      have U3 := Lib.hid (U2.out.keep hb)
      have B3 := Lib.hid (B2.out.trans (hb.mono B2.out.size))
      clear hb q0 q1 q2 q3 q4 q5 q6 qz
      obtain ⟨u0, u1, u2, u3, u4, u5, u6, uz⟩ := U3.out
      obtain ⟨q0, q1, q2, q3, q4, q5, q6, qz⟩ := R3.out
      go_wp2_with fail
      go_ret
      exact ⟨by rw [HF.out]; rfl, B3.out⟩
    · by_cases h1 : o = 0
      · by_cases h2 : p = 0
        · have t1 : (o != 0) = false := by rw [h1]; rfl
          have t2 : (p != 0) = false := by rw [h2]; rfl
          have HF := Lib.hid (show Z = 0 by rw [HC.out, if_neg (by simp), if_neg (by omega)])
          clear h1 h2
          go_enter Tryz.func60, Tryz.ntmps60
          go_wp2_with fail
          rw [← HG.out.2, ← HG.out.1, ← HW.out]
          refine (HV1.out _).mono ?_
          rintro e w1 ⟨rfl, hb⟩
          have R2 := Lib.hid (R1.out.keep hb)
          have U2 := Lib.hid (U1.out.keep hb)
          have B2 := Lib.hid (B1.out.trans (hb.mono B1.out.size))
          clear hb u0 u1 u2 u3 u4 u5 u6 uz
          obtain ⟨q0, q1, q2, q3, q4, q5, q6, qz⟩ := R2.out
          go_wp2_with fail
          refine (HV2.out _).mono ?_
          rintro e w2 ⟨rfl, hb⟩
          have R3 := Lib.hid (R2.out.keep hb)
          have U3 := Lib.hid (U2.out.keep hb)
          have B3 := Lib.hid (B2.out.trans (hb.mono B2.out.size))
          clear hb q0 q1 q2 q3 q4 q5 q6 qz
          obtain ⟨u0, u1, u2, u3, u4, u5, u6, uz⟩ := U3.out
          obtain ⟨q0, q1, q2, q3, q4, q5, q6, qz⟩ := R3.out
          go_wp2_with fail
          go_ret
          exact ⟨by rw [HF.out]; rfl, B3.out⟩
        · have t1 : (o != 0) = false := by rw [h1]; rfl
          have t2 : (p != 0) = true := by rw [bne_iff_ne]; exact h2
          have HF := Lib.hid (show Z = 11 by rw [HC.out, if_neg (by simp), if_pos (.inr h2)])
          clear h1 h2
          go_enter Tryz.func60, Tryz.ntmps60
          go_wp2_with fail
          rw [← HG.out.2, ← HG.out.1, ← HW.out]
          refine (HV1.out _).mono ?_
          rintro e w1 ⟨rfl, hb⟩
          have R2 := Lib.hid (R1.out.keep hb)
          have U2 := Lib.hid (U1.out.keep hb)
          have B2 := Lib.hid (B1.out.trans (hb.mono B1.out.size))
          clear hb u0 u1 u2 u3 u4 u5 u6 uz
          obtain ⟨q0, q1, q2, q3, q4, q5, q6, qz⟩ := R2.out
          go_wp2_with fail
          refine (HV2.out _).mono ?_
          rintro e w2 ⟨rfl, hb⟩
          have R3 := Lib.hid (R2.out.keep hb)
          have U3 := Lib.hid (U2.out.keep hb)
          have B3 := Lib.hid (B2.out.trans (hb.mono B2.out.size))
          clear hb q0 q1 q2 q3 q4 q5 q6 qz
          obtain ⟨u0, u1, u2, u3, u4, u5, u6, uz⟩ := U3.out
          obtain ⟨q0, q1, q2, q3, q4, q5, q6, qz⟩ := R3.out
          go_wp2_with fail
          go_ret
          exact ⟨by rw [HF.out]; rfl, B3.out⟩
      · have t1 : (o != 0) = true := by rw [bne_iff_ne]; exact h1
        have HF := Lib.hid (show Z = 11 by rw [HC.out, if_neg (by simp), if_pos (.inl h1)])
        clear h1
        go_enter Tryz.func60, Tryz.ntmps60
        go_wp2_with fail
        rw [← HG.out.2, ← HG.out.1, ← HW.out]
        refine (HV1.out _).mono ?_
        rintro e w1 ⟨rfl, hb⟩
        have R2 := Lib.hid (R1.out.keep hb)
        have U2 := Lib.hid (U1.out.keep hb)
        have B2 := Lib.hid (B1.out.trans (hb.mono B1.out.size))
        clear hb u0 u1 u2 u3 u4 u5 u6 uz
        obtain ⟨q0, q1, q2, q3, q4, q5, q6, qz⟩ := R2.out
        go_wp2_with fail
        refine (HV2.out _).mono ?_
        rintro e w2 ⟨rfl, hb⟩
        have R3 := Lib.hid (R2.out.keep hb)
        have U3 := Lib.hid (U2.out.keep hb)
        have B3 := Lib.hid (B2.out.trans (hb.mono B2.out.size))
        clear hb q0 q1 q2 q3 q4 q5 q6 qz
        obtain ⟨u0, u1, u2, u3, u4, u5, u6, uz⟩ := U3.out
        obtain ⟨q0, q1, q2, q3, q4, q5, q6, qz⟩ := R3.out
        go_wp2_with fail
        go_ret
        exact ⟨by rw [HF.out]; rfl, B3.out⟩

/-- a product, or a number past the scale -/
def limI (a b : Int) : Int := if 100000000000 / b < a then 100000000001 else a * b
theorem lim_mul {a b : Int} (ha : 1 ≤ a) (hb : 1 ≤ b) (h : ¬ 100000000000 / b < a) : 1 ≤ a * b ∧ a * b ≤ 100000000000 := by
  have h1 := Int.mul_le_mul_of_nonneg_right (show a ≤ 100000000000 / b by omega) (show 0 ≤ b by omega)
  have h2 := Int.ediv_mul_le 100000000000 (show b ≠ 0 by omega)
  have h3 := Int.mul_pos (show 0 < a by omega) (show 0 < b by omega)
  omega
theorem lim_div (b : Int) (hb : 1 ≤ b) : 0 ≤ 100000000000 / b ∧ 100000000000 / b ≤ 100000000000 := by
  have h1 := Int.ediv_nonneg (show (0 : Int) ≤ 100000000000 by omega) (show 0 ≤ b by omega)
  have h2 := Int.ediv_mul_le 100000000000 (show b ≠ 0 by omega)
  have h3 := Int.mul_le_mul_of_nonneg_left hb h1
  omega

set_option maxHeartbeats 400000 in
theorem limited_any (a b : Int) (w : World) (ha : 1 ≤ a) (hb : 1 ≤ b) (_ha2 : a ≤ 100000000000) (_hb2 : b ≤ 100000000000) :
    Calls Tryz.prog 72 #[.int .i64 a, .int .i64 b] w fun e w' => e = .returned (.int .i64 (limI a b)) ∧ w = w' := by
  obtain ⟨l1, l2⟩ := lim_div b hb
  obtain ⟨Q, hQ⟩ : ∃ t, 100000000000 / b = t := ⟨_, rfl⟩
  have hb0 : (b == 0) = false := by rw [beq_eq_false_iff_ne]; omega
  by_cases h : 100000000000 / b < a
  · have hL : limI a b = 100000000001 := if_pos h
    rw [hL]
    rw [hQ] at h l1 l2
    have t0 : decide (Q < a) = true := decide_eq_true h
    clear h hL
    go_enter Tryz.func72, Tryz.ntmps72
    go_wp2_with fail
    go_ret
    exact ⟨rfl, rfl⟩
  · have hm := lim_mul ha hb h
    have hL : limI a b = a * b := if_neg h
    rw [hL]
    rw [hQ] at h l1 l2
    have t0 : decide (Q < a) = false := decide_eq_false h
    obtain ⟨P, hP⟩ : ∃ t, a * b = t := ⟨_, rfl⟩
    rw [hP] at hm
    rw [hP]
    obtain ⟨m1, m2⟩ := hm
    clear h hL
    go_enter Tryz.func72, Tryz.ntmps72
    go_wp2_with fail
    go_ret
    exact ⟨rfl, rfl⟩
end Go.Proofs.YtlahoohgbfjciaaGreatDoor
