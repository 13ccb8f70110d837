/- The contract of the specification's Bounds. -/
import Derived.Test.YthghcppdfeeloaaRj
namespace Go.Proofs.Ythghcppdfeeloaa
open Go.RowKit

/-- the span over the knots of both ends, too -/
def spanR (ks : List (Int × Int)) (lo hi : Int) (s : Int × Int) (k : Nat) : Int × Int :=
  (List.range k).foldl (fun s i => if lo ≤ kx ks i ∧ kx ks i ≤ hi then (min s.1 (ky ks i), max s.2 (ky ks i)) else s) s
theorem spanR_succ (ks : List (Int × Int)) (lo hi : Int) (s : Int × Int) (k : Nat) : spanR ks lo hi s (k + 1) = if lo ≤ kx ks k ∧ kx ks k ≤ hi then (min (spanR ks lo hi s k).1 (ky ks k), max (spanR ks lo hi s k).2 (ky ks k)) else spanR ks lo hi s k := by
  unfold spanR; rw [List.range_succ, List.foldl_append, List.foldl_cons, List.foldl_nil]
theorem spanL_inside (ks : List (Int × Int)) (lo hi : Int) (s : Int × Int) (k : Nat) : (spanL ks lo hi s k).1 ≤ s.1 ∧ s.2 ≤ (spanL ks lo hi s k).2 := by
  induction k with
  | zero => exact ⟨Int.le_refl _, Int.le_refl _⟩
  | succ k ih =>
    rw [spanL_succ]
    split
    · exact ⟨by show min _ _ ≤ _; omega, by show _ ≤ max _ _; omega⟩
    · exact ih
theorem val_knot (ks : List (Int × Int)) (i : Nat) (he : checkL ks = 0) (hi : i < ks.length) : valI ks (kx ks i) = ky ks i := by
  obtain ⟨h0, h32, hf, hr⟩ := check_zero ks he
  by_cases hl : i = ks.length - 1
  · rw [hl]; exact val_last ks _ he (Int.le_refl _)
  · have h1 := rise_lt ks hr i (i + 1) (by omega) (by omega)
    rw [val_mid ks _ i he (by omega) (Int.le_refl _) h1]
    obtain ⟨f1, f2⟩ := fit_at ks hf i (by omega)
    obtain ⟨g1, g2⟩ := fit_at ks hf (i + 1) (by omega)
    rw [lineI_left _ _ _ _ _ (by omega) (by omega), f2]
theorem spanR_eq (ks : List (Int × Int)) (lo hi : Int) (he : checkL ks = 0) (s : Int × Int) (hs : s = (min (valI ks lo) (valI ks hi), max (valI ks lo) (valI ks hi))) (k : Nat) (hk : k ≤ ks.length) : spanR ks lo hi s k = spanL ks lo hi s k := by
  induction k with
  | zero => rfl
  | succ k ih =>
    rw [spanR_succ, spanL_succ, ih (by omega)]
    have hin := spanL_inside ks lo hi s k
    have hv := val_knot ks k he (by omega)
    by_cases h1 : lo < kx ks k ∧ kx ks k < hi
    · rw [if_pos h1, if_pos ⟨by omega, by omega⟩]
    · rw [if_neg h1]
      by_cases h2 : lo ≤ kx ks k ∧ kx ks k ≤ hi
      · rw [if_pos h2]
        have h3 : kx ks k = lo ∨ kx ks k = hi := by omega
        have h4 : s.1 ≤ ky ks k ∧ ky ks k ≤ s.2 := by
          rw [hs, ← hv]
          rcases h3 with h3 | h3 <;> rw [h3] <;> exact ⟨by show min _ _ ≤ _; omega, by show _ ≤ max _ _; omega⟩
        refine Prod.ext ?_ ?_
        · show min _ _ = _; omega
        · show max _ _ = _; omega
      · rw [if_neg h2]

set_option maxHeartbeats 4000000 in
set_option maxRecDepth 100000 in
theorem rbounds_some (b off cap : Nat) (ks : List (Int × Int)) (lo hi : Int) (w : World) (hb : b < w.heap.size) (hc : Knots w b off ks) (he : checkL ks = 0) (hlh : lo ≤ hi) :
    Calls Try.prog 21 #[.slice (some ⟨b, off, none⟩) ks.length cap, .int .i64 lo, .int .i64 hi] w fun e w' => e = .returned (.tuple #[.agg #[.int .i64 (boundsI ks lo hi).1, .int .i64 (boundsI ks lo hi).2], .int .i64 0]) ∧ Below w.heap.size w w' := by
  obtain ⟨h0, h32, hf, hr⟩ := check_zero ks he
  have hk := fun w' (hw : Below w.heap.size w w') => (by have h := rcheck_any (some ⟨b, off, none⟩) ks.length cap ks w' (.inr ⟨b, off, rfl, Nat.lt_of_lt_of_le hb hw.size, rfl, by omega, hc.at hb hw⟩); rw [he] at h; exact h)
  have HK := Lib.hid hk
  have HV := Lib.hid fun x w' (hw : Below w.heap.size w w') => reval_any b off cap ks x w' (Nat.lt_of_lt_of_le hb hw.size) (hc.at hb hw) he
  have hB : boundsI ks lo hi = spanR ks lo hi (min (valI ks lo) (valI ks hi), max (valI ks lo) (valI ks hi)) ks.length := (spanR_eq ks lo hi he _ rfl _ (Nat.le_refl _)).symm
  obtain ⟨Z, hZ⟩ : ∃ Z, Z = boundsI ks lo hi := ⟨_, rfl⟩
  rw [← hZ] at hB ⊢
  obtain ⟨V1, hV1⟩ : ∃ t, t = valI ks lo := ⟨_, rfl⟩
  obtain ⟨V2, hV2⟩ : ∃ t, t = valI ks hi := ⟨_, rfl⟩
  rw [← hV1, ← hV2] at hB
  have HV1 := Lib.hid fun w' (hw : Below w.heap.size w w') => (by have h := HV.out lo w' hw; rw [← hV1] at h; exact h)
  have HV2 := Lib.hid fun w' (hw : Below w.heap.size w w') => (by have h := HV.out hi w' hw; rw [← hV2] at h; exact h)
  obtain ⟨n, hn⟩ : ∃ n, n = ks.length := ⟨_, rfl⟩
  rw [← hn] at HK HV1 HV2 hB h0 h32 ⊢
  have HC := Lib.hid hc
  have HN := Lib.hid hn
  have HB := Lib.hid hB
  have t0 : decide (hi < lo) = false := by rw [decide_eq_false_iff_not]; omega
  clear hk HV hB hZ hV1 hV2 hc hn he hf hr
  go_enter Try.func21, Try.ntmps21
  go_wp2_with fail
  have B0 : Below w.heap.size w (w.alloc (.cells #[.int .i64 0, .int .i64 0] 34)) := (Below.refl _ w).alloc (Nat.le_refl _) _
  refine (HK.out _ B0).mono ?_
  rintro e w1 ⟨rfl, hb1⟩
  have B1 := Lib.hid (B0.trans (hb1.mono B0.size))
  have sz := hb1.size
  rw [World.size_alloc] at sz
  have q0 : w1.cell? ⟨w.heap.size, 0, none⟩ = some (.int .i64 0) := (hb1.cell (p := ⟨w.heap.size, 0, none⟩) (by rw [World.size_alloc]; show w.heap.size < _; omega)).trans (cell_two0 _ _ _ _)
  have q1 : w1.cell? ⟨w.heap.size, 1, none⟩ = some (.int .i64 0) := (hb1.cell (p := ⟨w.heap.size, 1, none⟩) (by rw [World.size_alloc]; show w.heap.size < _; omega)).trans (cell_two1 _ _ _ _)
  have s1 : w.heap.size < w1.heap.size := by omega
  have q2 : w1.frozen? ⟨w.heap.size, 0, none⟩ = false := (hb1.frozen (p := ⟨w.heap.size, 0, none⟩) (by rw [World.size_alloc]; show w.heap.size < _; omega)).trans (by simp)
  have q3 : w1.frozen? ⟨w.heap.size, 1, none⟩ = false := (hb1.frozen (p := ⟨w.heap.size, 1, none⟩) (by rw [World.size_alloc]; show w.heap.size < _; omega)).trans (by simp)
  clear hb1 HK B0 sz
  go_wp2_with fail
  refine (HV1.out _ B1.out).mono ?_
  rintro e w2 ⟨rfl, hb2⟩
  have r0 := (hb2.cell (p := ⟨w.heap.size, 0, none⟩) s1).trans q0
  have r1 := (hb2.cell (p := ⟨w.heap.size, 1, none⟩) s1).trans q1
  have r2 := (hb2.frozen (p := ⟨w.heap.size, 0, none⟩) s1).trans q2
  have r3 := (hb2.frozen (p := ⟨w.heap.size, 1, none⟩) s1).trans q3
  have s2 := Nat.lt_of_lt_of_le s1 hb2.size
  have B2 := Lib.hid (B1.out.trans (hb2.mono B1.out.size))
  clear hb2 q0 q1 q2 q3 s1
  go_wp2_with fail
  refine (HV1.out _ B2.out).mono ?_
  rintro e w3 ⟨rfl, hb3⟩
  have q0 := (hb3.cell (p := ⟨w.heap.size, 0, none⟩) s2).trans r0
  have q1 := (hb3.cell (p := ⟨w.heap.size, 1, none⟩) s2).trans r1
  have q2 := (hb3.frozen (p := ⟨w.heap.size, 0, none⟩) s2).trans r2
  have q3 := (hb3.frozen (p := ⟨w.heap.size, 1, none⟩) s2).trans r3
  have s1 := Nat.lt_of_lt_of_le s2 hb3.size
  have B3 := Lib.hid (B2.out.trans (hb3.mono B2.out.size))
  clear hb3 r0 r1 r2 r3 s2 HV1
  go_wp2_with fail
  have e0 := cell_two0 w3 (.int .i64 V1) (.int .i64 V1) 34
  have e1 := cell_two1 w3 (.int .i64 V1) (.int .i64 V1) 34
  have z0 : (w3.alloc (.cells #[.int .i64 V1, .int .i64 V1] 34)).frozen? ⟨w3.heap.size, 0, none⟩ = false := by simp
  have z1 : (w3.alloc (.cells #[.int .i64 V1, .int .i64 V1] 34)).frozen? ⟨w3.heap.size, 1, none⟩ = false := by simp
  have e2 : (w3.alloc (.cells #[.int .i64 V1, .int .i64 V1] 34)).cell? ⟨w.heap.size, 0, none⟩ = some (.int .i64 0) := cell_alloc_sl _ q0
  have e3 : (w3.alloc (.cells #[.int .i64 V1, .int .i64 V1] 34)).cell? ⟨w.heap.size, 1, none⟩ = some (.int .i64 0) := cell_alloc_sl _ q1
  have e5 : (w3.alloc (.cells #[.int .i64 V1, .int .i64 V1] 34)).frozen? ⟨w.heap.size, 0, none⟩ = false := by rw [World.frozen?_alloc_past _ _ _ s1]; exact q2
  have e6 : (w3.alloc (.cells #[.int .i64 V1, .int .i64 V1] 34)).frozen? ⟨w.heap.size, 1, none⟩ = false := by rw [World.frozen?_alloc_past _ _ _ s1]; exact q3
  have e4 : w3.heap.size < (w3.alloc (.cells #[.int .i64 V1, .int .i64 V1] 34)).heap.size := by rw [World.size_alloc]; omega
  have B4 := Lib.hid (B3.out.alloc B3.out.size (.cells #[.int .i64 V1, .int .i64 V1] 34))
  obtain ⟨S, hS⟩ : ∃ S, S = w3.heap.size := ⟨_, rfl⟩
  rw [← hS] at s1 e0 e1 z0 z1 e4 ⊢
  generalize w3.alloc (.cells #[.int .i64 V1, .int .i64 V1] 34) = w4 at e0 e1 z0 z1 e2 e3 e4 e5 e6 B4 ⊢
  clear hS q0 q1 q2 q3 B1 B2 B3
  refine (HV2.out _ B4.out).mono ?_
  rintro e w5 ⟨rfl, hb5⟩
  have s4 : w.heap.size < w4.heap.size := Nat.lt_trans s1 e4
  have q0 := (hb5.cell (p := ⟨w.heap.size, 0, none⟩) s4).trans e2
  have q1 := (hb5.cell (p := ⟨w.heap.size, 1, none⟩) s4).trans e3
  have q2 := (hb5.frozen (p := ⟨w.heap.size, 0, none⟩) s4).trans e5
  have q3 := (hb5.frozen (p := ⟨w.heap.size, 1, none⟩) s4).trans e6
  have r0 := (hb5.cell (p := ⟨S, 0, none⟩) e4).trans e0
  have r1 := (hb5.cell (p := ⟨S, 1, none⟩) e4).trans e1
  have r2 := (hb5.frozen (p := ⟨S, 0, none⟩) e4).trans z0
  have r3 := (hb5.frozen (p := ⟨S, 1, none⟩) e4).trans z1
  have s5 := Nat.lt_of_lt_of_le e4 hb5.size
  have B5 := Lib.hid (B4.out.trans (hb5.mono B4.out.size))
  clear hb5 e0 e1 e2 e3 e4 e5 e6 z0 z1 B4 s4 HV2
  obtain ⟨M1, hM1⟩ : ∃ t, t = min V1 V2 := ⟨_, rfl⟩
  obtain ⟨M2, hM2⟩ : ∃ t, t = max V1 V2 := ⟨_, rfl⟩
  rw [← hM1, ← hM2] at HB
  have u1 : min V1 V2 = M1 := hM1.symm
  have u2 : max V1 V2 = M2 := hM2.symm
  clear hM1 hM2
  go_wp2_with fail
  have v0 : (w5.setCell ⟨S, 0, none⟩ (.int .i64 M1)).cell? ⟨S, 0, none⟩ = some (.int .i64 M1) := World.cell?_setCell_same _ _ _ r0
  have v1 : (w5.setCell ⟨S, 0, none⟩ (.int .i64 M1)).cell? ⟨S, 1, none⟩ = some (.int .i64 V1) := (World.cell?_setCell_other _ _ _ _ (by simp)).trans r1
  have n1 : S ≠ w.heap.size := by omega
  have v2 : (w5.setCell ⟨S, 0, none⟩ (.int .i64 M1)).cell? ⟨w.heap.size, 0, none⟩ = some (.int .i64 0) := (World.cell?_setCell_other _ _ _ _ (by simp)).trans q0
  have v3 : (w5.setCell ⟨S, 0, none⟩ (.int .i64 M1)).cell? ⟨w.heap.size, 1, none⟩ = some (.int .i64 0) := (World.cell?_setCell_other _ _ _ _ (by simp)).trans q1
  obtain ⟨w6, hw6⟩ : ∃ w6, w6 = (w5.setCell ⟨S, 0, none⟩ (.int .i64 M1)).setCell ⟨S, 1, none⟩ (.int .i64 M2) := ⟨_, rfl⟩
  have i0 : w6.cell? ⟨S, 0, none⟩ = some (.int .i64 M1) := by rw [hw6]; exact (World.cell?_setCell_other _ _ _ _ (by simp)).trans v0
  have i1 : w6.cell? ⟨S, 1, none⟩ = some (.int .i64 M2) := by rw [hw6]; exact World.cell?_setCell_same _ _ _ v1
  have i2 : w6.cell? ⟨w.heap.size, 0, none⟩ = some (.int .i64 0) := by rw [hw6]; exact (World.cell?_setCell_other _ _ _ _ (by simp)).trans v2
  have i3 : w6.cell? ⟨w.heap.size, 1, none⟩ = some (.int .i64 0) := by rw [hw6]; exact (World.cell?_setCell_other _ _ _ _ (by simp)).trans v3
  have i4 : w6.frozen? ⟨S, 0, none⟩ = false := by rw [hw6]; simp [r2]
  have i5 : w6.frozen? ⟨S, 1, none⟩ = false := by rw [hw6]; simp [r3]
  have i6 : w6.frozen? ⟨w.heap.size, 0, none⟩ = false := by rw [hw6]; simp [q2]
  have i7 : w6.frozen? ⟨w.heap.size, 1, none⟩ = false := by rw [hw6]; simp [q3]
  have i8 : S < w6.heap.size := by rw [hw6]; simpa using s5
  have B6 := Lib.hid (show Below w.heap.size w w6 by rw [hw6]; exact (B5.out.setCell (Nat.le_of_lt s1) _).setCell (Nat.le_of_lt s1) _)
  rw [← hw6]
  clear hw6 v0 v1 v2 v3 q0 q1 q2 q3 r0 r1 r2 r3 s5 B5 u1 u2
  go_loopw [11] (fun i wr => ∃ k : Nat, k ≤ n ∧ i = .int .i64 k ∧ wr.cell? ⟨S, 0, none⟩ = some (.int .i64 (spanR ks lo hi (M1, M2) k).1) ∧ wr.cell? ⟨S, 1, none⟩ = some (.int .i64 (spanR ks lo hi (M1, M2) k).2) ∧ wr.frozen? ⟨S, 0, none⟩ = false ∧ wr.frozen? ⟨S, 1, none⟩ = false ∧
      wr.cell? ⟨w.heap.size, 0, none⟩ = some (.int .i64 0) ∧ wr.cell? ⟨w.heap.size, 1, none⟩ = some (.int .i64 0) ∧ wr.frozen? ⟨w.heap.size, 0, none⟩ = false ∧ wr.frozen? ⟨w.heap.size, 1, none⟩ = false ∧ S < wr.heap.size ∧ Below w.heap.size w wr) (fun i _ => n - (intOf i).toNat)
  case atStart => exact ⟨0, by omega, rfl, i0, i1, i4, i5, i2, i3, i6, i7, i8, B6.out⟩
  case round =>
    obtain ⟨k, hk, rfl, c0, c1, g0, g1, d0, d1, g2, g3, hS, hbel⟩ := hrel
    by_cases hlt : k < n
    · obtain ⟨a0, a1⟩ := HC.out.at hb hbel k (by rw [← HN.out]; exact hlt)
      have hs := spanR_succ ks lo hi (M1, M2) k
      obtain ⟨T, hT⟩ : ∃ T, T = spanR ks lo hi (M1, M2) k := ⟨_, rfl⟩
      obtain ⟨P, Q⟩ := T
      rw [← hT] at c0 c1 hs
      obtain ⟨X, hX⟩ : ∃ t, t = kx ks k := ⟨_, rfl⟩
      obtain ⟨Y, hY⟩ : ∃ t, t = ky ks k := ⟨_, rfl⟩
      rw [← hX] at a0 hs
      rw [← hY] at a1 hs
      have HBl := Lib.hid hbel
      have HS := Lib.hid hs
      clear hs hT hX hY hbel i0 i1 i2 i3 i4 i5 i6 i7 i8 B6
      change wr.cell? ⟨S, 0, none⟩ = some (.int .i64 P) at c0
      change wr.cell? ⟨S, 1, none⟩ = some (.int .i64 Q) at c1
      by_cases h1 : lo ≤ X
      · have t1 : decide (lo ≤ X) = true := decide_eq_true h1
        by_cases h2 : X ≤ hi
        · have t2 : decide (X ≤ hi) = true := decide_eq_true h2
          obtain ⟨A, hA⟩ : ∃ A, A = min P Y := ⟨_, rfl⟩
          obtain ⟨B, hB'⟩ : ∃ B, B = max Q Y := ⟨_, rfl⟩
          have m1 : min P Y = A := hA.symm
          have m2 : max Q Y = B := hB'.symm
          have HS2 := Lib.hid (show spanR ks lo hi (M1, M2) (k + 1) = (A, B) by rw [HS.out, if_pos ⟨h1, h2⟩, hA, hB'])
          clear HS hA hB'
          go_wp2_with fail
          go_region
          all_goals
            have v0 : (wr.setCell ⟨S, 0, none⟩ (.int .i64 A)).cell? ⟨S, 0, none⟩ = some (.int .i64 A) := World.cell?_setCell_same _ _ _ c0
            have v1 : (wr.setCell ⟨S, 0, none⟩ (.int .i64 A)).cell? ⟨S, 1, none⟩ = some (.int .i64 Q) := (World.cell?_setCell_other _ _ _ _ (by simp)).trans c1
            have v2 : (wr.setCell ⟨S, 0, none⟩ (.int .i64 A)).cell? ⟨w.heap.size, 0, none⟩ = some (.int .i64 0) := (World.cell?_setCell_other _ _ _ _ (by simp)).trans d0
            have v3 : (wr.setCell ⟨S, 0, none⟩ (.int .i64 A)).cell? ⟨w.heap.size, 1, none⟩ = some (.int .i64 0) := (World.cell?_setCell_other _ _ _ _ (by simp)).trans d1
            obtain ⟨W1, hW1⟩ : ∃ W1, W1 = (wr.setCell ⟨S, 0, none⟩ (.int .i64 A)).setCell ⟨S, 1, none⟩ (.int .i64 B) := ⟨_, rfl⟩
            have i0 : W1.cell? ⟨S, 0, none⟩ = some (.int .i64 A) := by rw [hW1]; exact (World.cell?_setCell_other _ _ _ _ (by simp)).trans v0
            have i1 : W1.cell? ⟨S, 1, none⟩ = some (.int .i64 B) := by rw [hW1]; exact World.cell?_setCell_same _ _ _ v1
            have i2 : W1.cell? ⟨w.heap.size, 0, none⟩ = some (.int .i64 0) := by rw [hW1]; exact (World.cell?_setCell_other _ _ _ _ (by simp)).trans v2
            have i3 : W1.cell? ⟨w.heap.size, 1, none⟩ = some (.int .i64 0) := by rw [hW1]; exact (World.cell?_setCell_other _ _ _ _ (by simp)).trans v3
            have i4 : W1.frozen? ⟨S, 0, none⟩ = false := by rw [hW1]; simp [g0]
            have i5 : W1.frozen? ⟨S, 1, none⟩ = false := by rw [hW1]; simp [g1]
            have i6 : W1.frozen? ⟨w.heap.size, 0, none⟩ = false := by rw [hW1]; simp [g2]
            have i7 : W1.frozen? ⟨w.heap.size, 1, none⟩ = false := by rw [hW1]; simp [g3]
            have i8 : S < W1.heap.size := by rw [hW1]; simpa using hS
            have B6 := Lib.hid (show Below w.heap.size w W1 by rw [hW1]; exact (HBl.out.setCell (Nat.le_of_lt s1) _).setCell (Nat.le_of_lt s1) _)
            rw [← hW1]
            clear hW1 v0 v1 v2 v3 c0 c1 d0 d1 g0 g1 g2 g3
            go_wp2_with fail
            go_roundw
            case rel => exact ⟨k + 1, by omega, by go_num, by rw [HS2.out]; exact i0, by rw [HS2.out]; exact i1, i4, i5, i2, i3, i6, i7, i8, by first | exact B6.out | exact B6.out.drew⟩
            case measure => simp [intOf]; omega
        · have t2 : decide (X ≤ hi) = false := decide_eq_false h2
          go_wp2_with fail
          go_roundw
          case rel => exact ⟨k + 1, by omega, by go_num, by rw [HS.out, if_neg (by omega)]; exact c0, by rw [HS.out, if_neg (by omega)]; exact c1, g0, g1, d0, d1, g2, g3, hS, HBl.out⟩
          case measure => simp [intOf]; omega
      · have t1 : decide (lo ≤ X) = false := decide_eq_false h1
        go_wp2_with fail
        go_roundw
        case rel => exact ⟨k + 1, by omega, by go_num, by rw [HS.out, if_neg (by omega)]; exact c0, by rw [HS.out, if_neg (by omega)]; exact c1, g0, g1, d0, d1, g2, g3, hS, HBl.out⟩
        case measure => simp [intOf]; omega
    · obtain rfl : k = n := by omega
      rw [← HB.out] at c0 c1
      have HBl := Lib.hid hbel
      clear hbel i0 i1 i2 i3 i4 i5 i6 i7 i8 B6
      go_wp2_with fail
      have y0 : (wr.setCell ⟨w.heap.size, 0, none⟩ (.int .i64 Z.1)).cell? ⟨w.heap.size, 0, none⟩ = some (.int .i64 Z.1) := World.cell?_setCell_same _ _ _ d0
      have y2 : (wr.setCell ⟨w.heap.size, 0, none⟩ (.int .i64 Z.1)).cell? ⟨w.heap.size, 1, none⟩ = some (.int .i64 0) := (World.cell?_setCell_other _ _ _ _ (by simp)).trans d1
      have y1 : ((wr.setCell ⟨w.heap.size, 0, none⟩ (.int .i64 Z.1)).setCell ⟨w.heap.size, 1, none⟩ (.int .i64 Z.2)).cell? ⟨w.heap.size, 1, none⟩ = some (.int .i64 Z.2) := World.cell?_setCell_same _ _ _ y2
      (try simp only [Exit.inBlock, Exit.then])
      refine bodyPost_ret (by simp [results, Try.results21, go_sem, y0, y1]; try rfl) rfl ?_
      exact ⟨rfl, (HBl.out.setCell (Nat.le_refl _) _).setCell (Nat.le_refl _) _⟩
end Go.Proofs.Ythghcppdfeeloaa
