/- The contract of the specification's Eval of a curve: the same value. -/
import Derived.Test.YthghcppdfeeloaaEl
import Derived.Deep.RegionHeld3
namespace Go.Proofs.Ythghcppdfeeloaa
open Go.RowKit

theorem fit_at (ks : List (Int × Int)) (h : fitL ks ks.length = true) (i : Nat) (hi : i < ks.length) : clampI (kx ks i) = kx ks i ∧ clampI (ky ks i) = ky ks i := by
  have h1 := all_at _ i _ h hi
  rw [Bool.and_eq_true, inR_iff, inR_iff] at h1
  exact ⟨clampI_in _ h1.1.1 h1.1.2, clampI_in _ h1.2.1 h1.2.2⟩
theorem rise_lt (ks : List (Int × Int)) (h : riseL ks (ks.length - 1) = true) (i j : Nat) (h1 : i < j) (h2 : j < ks.length) : kx ks i < kx ks j := by
  have h3 := rise_mono ks h j (i + 1) h1 h2
  have h4 := of_decide_eq_true (all_at _ i _ h (by omega))
  omega
theorem behind_eq (ks : List (Int × Int)) (x : Int) (h : riseL ks (ks.length - 1) = true) (r : Nat) (hr : r ≤ ks.length) (h1 : 0 < r → kx ks (r - 1) ≤ x) (h2 : r < ks.length → x < kx ks r) : behind ks x = r := by
  obtain ⟨b1, b2, b3⟩ := behind_facts ks x h
  rcases Nat.lt_trichotomy (behind ks x) r with h3 | h3 | h3
  · have h4 := of_decide_eq_true (b3 (r - 1) (by omega) (by omega))
    have := h1 (by omega)
    omega
  · exact h3
  · have h4 := of_decide_eq_false (b2 r h3)
    have := h2 (by omega)
    omega
theorem lineI_left (x x1 y1 x2 y2 : Int) (h : clampI x1 < clampI x2) (hs : clampI x ≤ clampI x1) : lineI x x1 y1 x2 y2 = clampI y1 := by
  have ry1 := clampI_range y1
  unfold lineI
  rw [if_neg (by omega), show min (max (clampI x) (clampI x1)) (clampI x2) = clampI x1 by omega, Int.sub_self, Int.mul_zero, Int.add_zero]
  exact quoI_exact2 _ _ (by omega) ry1.1 ry1.2
theorem lineI_one (x x1 y1 : Int) : lineI x x1 y1 x1 y1 = clampI y1 := by
  unfold lineI
  rw [if_pos (Int.le_refl _)]
  split <;> rfl

theorem val_first (ks : List (Int × Int)) (x : Int) (he : checkL ks = 0) (hx : x ≤ kx ks 0) : valI ks x = ky ks 0 := by
  obtain ⟨h0, h32, hf, hr⟩ := check_zero ks he
  obtain ⟨f1, f2⟩ := fit_at ks hf 0 h0
  by_cases hlt : x < kx ks 0
  · have hb := behind_eq ks x hr 0 (by omega) (fun h => absurd h (by omega)) (fun _ => hlt)
    unfold valI
    rw [hb, show min 0 (ks.length - 1) = 0 by omega, Nat.zero_sub, lineI_one, f2]
  · obtain rfl : x = kx ks 0 := by omega
    have hb := behind_eq ks (kx ks 0) hr 1 (by omega) (fun _ => Int.le_refl _) (fun h => rise_lt ks hr 0 1 (by omega) h)
    unfold valI
    rw [hb]
    by_cases h1 : ks.length = 1
    · rw [show min 1 (ks.length - 1) = 0 by omega, Nat.sub_self, lineI_one, f2]
    · rw [show min 1 (ks.length - 1) = 1 by omega, Nat.sub_self]
      obtain ⟨g1, g2⟩ := fit_at ks hf 1 (by omega)
      have h3 := rise_lt ks hr 0 1 (by omega) (by omega)
      rw [lineI_left _ _ _ _ _ (by omega) (Int.le_refl _), f2]
theorem val_last (ks : List (Int × Int)) (x : Int) (he : checkL ks = 0) (hx : kx ks (ks.length - 1) ≤ x) : valI ks x = ky ks (ks.length - 1) := by
  obtain ⟨h0, h32, hf, hr⟩ := check_zero ks he
  obtain ⟨f1, f2⟩ := fit_at ks hf (ks.length - 1) (by omega)
  have hb := behind_eq ks x hr ks.length (Nat.le_refl _) (fun _ => hx) (fun h => absurd h (by omega))
  unfold valI
  rw [hb, show min ks.length (ks.length - 1) = ks.length - 1 by omega, lineI_one, f2]
theorem val_mid (ks : List (Int × Int)) (x : Int) (i : Nat) (he : checkL ks = 0) (hi : i + 1 < ks.length) (h1 : kx ks i ≤ x) (h2 : x < kx ks (i + 1)) : valI ks x = lineI x (kx ks i) (ky ks i) (kx ks (i + 1)) (ky ks (i + 1)) := by
  obtain ⟨h0, h32, hf, hr⟩ := check_zero ks he
  have hb := behind_eq ks x hr (i + 1) (by omega) (fun _ => h1) (fun _ => h2)
  unfold valI
  rw [hb, show min (i + 1) (ks.length - 1) = i + 1 by omega, Nat.add_sub_cancel]

set_option maxRecDepth 100000 in
set_option maxHeartbeats 4000000 in
theorem reval_any (b off cap : Nat) (ks : List (Int × Int)) (x : Int) (w : World) (hb : b < w.heap.size) (hc : Knots w b off ks) (he : checkL ks = 0) :
    Calls Try.prog 16 #[.slice (some ⟨b, off, none⟩) ks.length cap, .int .i64 x] w fun e w' => e = .returned (.int .i64 (valI ks x)) ∧ Below w.heap.size w w' := by
  obtain ⟨h0, h32, _, _⟩ := check_zero ks he
  have hv0 := val_first ks x he
  have hv1 := val_last ks x he
  have hvm := fun i => val_mid ks x i he
  obtain ⟨z, hz⟩ : ∃ z, z = valI ks x := ⟨_, rfl⟩
  rw [← hz] at hv0 hv1 hvm ⊢
  obtain ⟨c0, d0⟩ := hc 0 h0
  obtain ⟨c1, d1⟩ := hc (ks.length - 1) (by omega)
  obtain ⟨n, hn⟩ : ∃ n, n = ks.length := ⟨_, rfl⟩
  rw [← hn] at h0 h32 hv1 hvm c1 d1 ⊢
  have HC := Lib.hid hc
  have HN := Lib.hid hn
  have HM := Lib.hid hvm
  have f2 : IntKind.i64.wrap ((n : Int) - 1) = ((n - 1 : Nat) : Int) := by rw [IntWalk.i64_in _ (by omega)]; omega
  have g1 : ((n : Int) - 1) = ((n - 1 : Nat) : Int) := by omega
  clear hc hn hvm hz
  rw [Nat.zero_mul, Nat.add_zero] at c0 d0
  by_cases hx0 : x ≤ kx ks 0
  · have hv := hv0 hx0
    obtain ⟨X0, hX0⟩ : ∃ t, t = kx ks 0 := ⟨_, rfl⟩
    rw [← hX0] at c0 hx0
    have t0 : decide (x ≤ X0) = true := decide_eq_true hx0
    rw [← hv] at d0
    clear hv0 hv1 hX0 hx0 hv
    go_enter Try.func16, Try.ntmps16
    go_wp2_with fail
    go_ret
    exact ⟨rfl, Below.refl _ _⟩
  · obtain ⟨X0, hX0⟩ : ∃ t, t = kx ks 0 := ⟨_, rfl⟩
    rw [← hX0] at c0 hx0
    have t0 : decide (x ≤ X0) = false := decide_eq_false hx0
    by_cases hx1 : kx ks (n - 1) ≤ x
    · have hv := hv1 hx1
      obtain ⟨X1, hX1⟩ : ∃ t, t = kx ks (n - 1) := ⟨_, rfl⟩
      rw [← hX1] at c1 hx1
      have t1 : decide (X1 ≤ x) = true := decide_eq_true hx1
      rw [← hv] at d1
      clear hv0 hv1 hX0 hx0 hv hX1 hx1 d0
      have hn1 : n - 1 < n := by omega
      go_enter Try.func16, Try.ntmps16
      go_wp2_with fail
      go_ret
      exact ⟨rfl, Below.refl _ _⟩
    · have hlast := hx1
      obtain ⟨X1, hX1⟩ : ∃ t, t = kx ks (n - 1) := ⟨_, rfl⟩
      rw [← hX1] at c1 hx1
      have t1 : decide (X1 ≤ x) = false := decide_eq_false hx1
      have hfirst : kx ks 0 ≤ x := by omega
      have HF := Lib.hid hfirst
      have HLa := Lib.hid hlast
      clear hv0 hv1 hX0 hx0 hX1 hx1 d0 d1 hfirst hlast
      have hn1 : n - 1 < n := by omega
      go_enter Try.func16, Try.ntmps16
      go_wp2_with fail
      have hn2 : 1 < n := by
        rcases Nat.lt_or_ge 1 n with h | h
        · exact h
        · exfalso
          have h1 := HF.out
          have h2 := HLa.out
          rw [show n - 1 = 0 by omega] at h2
          omega
      go_loop [6] (fun i => ∃ k : Nat, k + 1 < n ∧ i = .int .i64 k ∧ kx ks k ≤ x) (fun i => n - (intOf i).toNat)
      case atStart => exact ⟨0, by omega, rfl, HF.out⟩
      case round =>
        obtain ⟨k, hk, rfl, hkx⟩ := hrel
        obtain ⟨a0, b0⟩ := HC.out k (by rw [← HN.out]; omega)
        obtain ⟨a1, b1⟩ := HC.out (k + 1) (by rw [← HN.out]; omega)
        by_cases hs : kx ks (k + 1) ≤ x
        · have HS := Lib.hid hs
          have hk2 : k + 1 + 1 < n := by
            rcases Nat.lt_or_ge (k + 1 + 1) n with h | h
            · exact h
            · exfalso
              have h2 := HLa.out
              rw [show n - 1 = k + 1 by omega] at h2
              omega
          obtain ⟨Y, hY⟩ : ∃ t, t = kx ks (k + 1) := ⟨_, rfl⟩
          rw [← hY] at a1 hs
          have t2 : decide (Y ≤ x) = true := decide_eq_true hs
          have hk3 : k + 1 < n := hk
          clear hs hY hkx a0 b0 b1
          go_wp2_with fail
          go_round
          case rel => exact ⟨k + 1, hk2, by go_num, HS.out⟩
          case measure => simp [intOf]; omega
        · have hz := HM.out k hk hkx (by omega)
          have HL := fun w => rline_any x (kx ks k) (ky ks k) (kx ks (k + 1)) (ky ks (k + 1)) w
          rw [← hz] at HL
          obtain ⟨Y, hY⟩ : ∃ t, t = kx ks (k + 1) := ⟨_, rfl⟩
          obtain ⟨Y2, hY2⟩ : ∃ t, t = ky ks (k + 1) := ⟨_, rfl⟩
          obtain ⟨Z1, hZ1⟩ : ∃ t, t = kx ks k := ⟨_, rfl⟩
          obtain ⟨Z2, hZ2⟩ : ∃ t, t = ky ks k := ⟨_, rfl⟩
          rw [← hY, ← hY2, ← hZ1, ← hZ2] at HL
          rw [← hY] at a1 hs
          rw [← hY2] at b1
          rw [← hZ1] at a0
          rw [← hZ2] at b0
          have HLh := Lib.hid HL
          clear HL
          have t2 : decide (Y ≤ x) = false := decide_eq_false hs
          have hk3 : k < n := by omega
          clear hs hY hkx hz hY2 hZ1 hZ2
          go_wp2_with fail
          have m0 : (0 : Int) ≤ (k : Int) := by omega
          have m1 : (k : Int) < (n : Int) := by omega
          have m2 : (0 : Int) ≤ (k : Int) + 1 := by omega
          have m3 : (k : Int) + 1 < (n : Int) := by omega
          have m4 : ((k : Int) + 1).toNat = k + 1 := by omega
          have m5 : IntKind.i64.wrap ((k : Int) + 1) = (k : Int) + 1 := IntWalk.i64_in _ (by omega)
          go_region_held3 (fun w' => w'.cell? ⟨b, off + k * 2, none⟩ = some (.int .i64 Z1) ∧ w'.cell? ⟨b, off + k * 2 + 1, none⟩ = some (.int .i64 Z2) ∧ w'.cell? ⟨b, off + (k + 1) * 2, none⟩ = some (.int .i64 Y) ∧ w'.cell? ⟨b, off + (k + 1) * 2 + 1, none⟩ = some (.int .i64 Y2))
            (first | go_keep | exact ⟨(hb2.cell (p := ⟨b, off + k * 2, none⟩) hb).trans a0, (hb2.cell (p := ⟨b, off + k * 2 + 1, none⟩) hb).trans b0, (hb2.cell (p := ⟨b, off + (k + 1) * 2, none⟩) hb).trans a1, (hb2.cell (p := ⟨b, off + (k + 1) * 2 + 1, none⟩) hb).trans b1⟩)
            (first | (go_at_call 32; refine (HLh.out _).mono ?_; rintro e w2 ⟨rfl, hb2⟩))
          clear m4 m5
          have B2 := Lib.hid ((below_drewN w.heap.size w 1).trans hb2)
          clear hb2
          go_wp2_with fail
          go_ret
          exact ⟨rfl, B2.out⟩
end Go.Proofs.Ythghcppdfeeloaa
