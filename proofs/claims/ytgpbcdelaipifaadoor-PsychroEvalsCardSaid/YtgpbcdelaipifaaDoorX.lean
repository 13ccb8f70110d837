/- Contracts of the specification's functions of numbers of 128 bits: sizes, products, sums, differences. -/
import Derived.Test.YtgpbcdelaipifaaDoorL
import Derived.Lib.Mul64
namespace Go.Proofs.YtgpbcdelaipifaaDoor
open Go.RowKit

/-- a number without a sign, in two words -/
abbrev wideV (N : Nat) : Value := wordsV ((N / 18446744073709551616 : Nat) : Int) ((N % 18446744073709551616 : Nat) : Int)

set_option maxHeartbeats 400000 in
theorem rclamp_any (n : Int) (w : World) :
    Calls Tryd.prog 45 #[.int .i64 n] w fun e w' => e = .returned (.int .i64 (clampI n)) ∧ w = w' := by
  have h : max (-1000000000000) (min 1000000000000 n) = clampI n := by unfold clampI; omega
  have H := Lib.hid h
  clear h
  go_enter Tryd.func45, Tryd.ntmps45
  go_wp2
  go_ret
  exact ⟨by rw [← H.out]; rfl, rfl⟩

set_option maxHeartbeats 400000 in
theorem rsize_any (n : Int) (w : World) (h1 : -10000000000000 ≤ n) (h2 : n ≤ 10000000000000) :
    Calls Tryd.prog 54 #[.int .i64 n] w fun e w' => e = .returned (.int .u64 (n.natAbs : Int)) ∧ w = w' := by
  by_cases h : n < 0
  · have t : decide (n < 0) = true := decide_eq_true h
    have e : ((n.natAbs : Nat) : Int) = -n := by omega
    rw [e]
    have e1 : wrap64 (-n) = -n := by unfold wrap64; omega
    have e2 : IntKind.u64.wrap (-n) = -n := by rw [IntKind.wrap_u64]; omega
    clear h e h1 h2
    go_enter Tryd.func54, Tryd.ntmps54
    go_wp2_with fail
    go_ret
    exact ⟨rfl, rfl⟩
  · have t : decide (n < 0) = false := decide_eq_false h
    have e : ((n.natAbs : Nat) : Int) = n := by omega
    rw [e]
    have e2 : IntKind.u64.wrap n = n := by rw [IntKind.wrap_u64]; omega
    clear h e h1 h2
    go_enter Tryd.func54, Tryd.ntmps54
    go_wp2_with fail
    go_ret
    exact ⟨rfl, rfl⟩

theorem wide_low (x y : Nat) :
    (((x / 4294967296) * (y % 4294967296) + (x % 4294967296) * (y % 4294967296) / 4294967296) % 4294967296 + (x % 4294967296) * (y / 4294967296)) % 4294967296 * 4294967296 + (x % 4294967296) * (y % 4294967296) % 4294967296 = x * y % 18446744073709551616 := by
  have e : x * y = (x / 4294967296) * (y / 4294967296) * (4294967296 * 4294967296) + ((x / 4294967296) * (y % 4294967296) + (x % 4294967296) * (y / 4294967296)) * 4294967296 + (x % 4294967296) * (y % 4294967296) := by
    rw [← Lib.split_mul, Nat.div_add_mod' x 4294967296, Nat.div_add_mod' y 4294967296]
  rw [e]
  generalize (x / 4294967296) * (y / 4294967296) = a
  generalize (x / 4294967296) * (y % 4294967296) = b
  generalize (x % 4294967296) * (y / 4294967296) = c
  generalize (x % 4294967296) * (y % 4294967296) = d
  omega

set_option maxHeartbeats 1000000 in
theorem rprod_any (a b : Nat) (w : World) (ha : a < 18446744073709551616) (hb : b < 18446744073709551616) :
    Calls Tryd.prog 55 #[.int .u64 a, .int .u64 b] w fun e w' => e = .returned (wideV (a * b)) ∧ Below w.heap.size w w' := by
  obtain ⟨d1, d2, d3, d4⟩ := Lib.mul64_hi a b ha hb
  have dl := wide_low a b
  have hP : a * b < 340282366920938463463374607431768211456 := by
    have : a * b ≤ 18446744073709551615 * 18446744073709551615 := Nat.mul_le_mul (by omega) (by omega)
    omega
  obtain ⟨al, hal⟩ : ∃ x : Nat, x = a % 4294967296 := ⟨_, rfl⟩
  obtain ⟨ah, hah⟩ : ∃ x : Nat, x = a / 4294967296 := ⟨_, rfl⟩
  obtain ⟨bl, hbl⟩ : ∃ x : Nat, x = b % 4294967296 := ⟨_, rfl⟩
  obtain ⟨bh, hbh⟩ : ∃ x : Nat, x = b / 4294967296 := ⟨_, rfl⟩
  have g1 : (a : Int) % 4294967296 = al := by omega
  have g2 : (a : Int) / 4294967296 = ah := by omega
  have g3 : (b : Int) % 4294967296 = bl := by omega
  have g4 : (b : Int) / 4294967296 = bh := by omega
  have hll : al * bl ≤ 18446744065119617025 := Lib.half_mul_le (by omega) (by omega)
  have hhl : ah * bl ≤ 18446744065119617025 := Lib.half_mul_le (by omega) (by omega)
  have hlh : al * bh ≤ 18446744065119617025 := Lib.half_mul_le (by omega) (by omega)
  have hhh : ah * bh ≤ 18446744065119617025 := Lib.half_mul_le (by omega) (by omega)
  rw [← hal, ← hah, ← hbl] at d2
  rw [← hal, ← hah, ← hbl, ← hbh] at d3 d4 dl
  obtain ⟨ll, hLL⟩ : ∃ x : Nat, x = al * bl := ⟨_, rfl⟩
  obtain ⟨hl, hHL⟩ : ∃ x : Nat, x = ah * bl := ⟨_, rfl⟩
  obtain ⟨lh, hLH⟩ : ∃ x : Nat, x = al * bh := ⟨_, rfl⟩
  obtain ⟨hh, hHH⟩ : ∃ x : Nat, x = ah * bh := ⟨_, rfl⟩
  rw [← hLL] at hll
  rw [← hHL] at hhl
  rw [← hLH] at hlh
  rw [← hHH] at hhh
  rw [← hLL, ← hHL] at d2
  rw [← hLL, ← hHL, ← hLH] at d3 dl
  rw [← hLL, ← hHL, ← hLH, ← hHH] at d4
  have f1 : IntKind.u64.wrap ((al : Int) * bl) = ll := by rw [← Int.natCast_mul, ← hLL, IntKind.wrap_u64]; omega
  have f2 : IntKind.u64.wrap ((ah : Int) * bl) = hl := by rw [← Int.natCast_mul, ← hHL, IntKind.wrap_u64]; omega
  have f3 : IntKind.u64.wrap ((al : Int) * bh) = lh := by rw [← Int.natCast_mul, ← hLH, IntKind.wrap_u64]; omega
  have f4 : IntKind.u64.wrap ((ah : Int) * bh) = hh := by rw [← Int.natCast_mul, ← hHH, IntKind.wrap_u64]; omega
  obtain ⟨m, hm⟩ : ∃ x : Nat, x = hl + ll / 4294967296 := ⟨_, rfl⟩
  have f5 : IntKind.u64.wrap ((hl : Int) + ↑ll / 4294967296) = m := by rw [IntKind.wrap_u64]; omega
  obtain ⟨t, ht⟩ : ∃ x : Nat, x = hh + m / 4294967296 := ⟨_, rfl⟩
  have f6 : IntKind.u64.wrap ((hh : Int) + ↑m / 4294967296) = t := by rw [IntKind.wrap_u64]; omega
  obtain ⟨k, hk⟩ : ∃ x : Nat, x = m % 4294967296 + lh := ⟨_, rfl⟩
  have f7 : IntKind.u64.wrap ((m : Int) % 4294967296 + ↑lh) = k := by rw [IntKind.wrap_u64]; omega
  obtain ⟨P1, hP1⟩ : ∃ x : Nat, x = a * b / 18446744073709551616 := ⟨_, rfl⟩
  obtain ⟨P0, hP0⟩ : ∃ x : Nat, x = a * b % 18446744073709551616 := ⟨_, rfl⟩
  rw [← hm, ← ht, ← hk, ← hP1] at d4
  rw [← hm, ← hk, ← hP0] at dl
  have f8 : IntKind.u64.wrap ((t : Int) + ↑k / 4294967296) = P1 := by rw [IntKind.wrap_u64]; omega
  have f9 : IntKind.u64.wrap ((k : Int) % 4294967296 * 4294967296 + ↑ll % 4294967296) = P0 := by rw [IntKind.wrap_u64]; omega
  have i1 : (ll : Int) < 18446744073709551616 := by omega
  have i2 : (hl : Int) < 18446744073709551616 := by omega
  have i3 : (lh : Int) < 18446744073709551616 := by omega
  have i4 : (hh : Int) < 18446744073709551616 := by omega
  have i5 : (m : Int) < 18446744073709551616 := by omega
  have i6 : (t : Int) < 18446744073709551616 := by omega
  have i7 : (k : Int) < 18446744073709551616 := by omega
  have f5' : (hl : Int) + ↑ll / 4294967296 = m := by omega
  have f6' : (hh : Int) + ↑m / 4294967296 = t := by omega
  have f7' : (m : Int) % 4294967296 + ↑lh = k := by omega
  have f8' : (t : Int) + ↑k / 4294967296 = P1 := by omega
  have f9' : (k : Int) % 4294967296 * 4294967296 + ↑ll % 4294967296 = P0 := by omega
  have f10 : IntKind.u64.wrap (P1 : Int) = P1 := by rw [IntKind.wrap_u64]; omega
  rw [wideV, ← hP1, ← hP0]
  clear d1 d2 d3 d4 dl hP hal hah hbl hbh hll hhl hlh hhh hLL hHL hLH hHH hm ht hk hP1 hP0
  simp only [wordsV]
  go_enter Tryd.func55, Tryd.ntmps55
  go_wp2_with fail
  exact bodyPost_ret (v := wordsV P1 P0) (by simp [results, Tryd.results55, go_sem, wordsV]) rfl ⟨rfl, (Below.refl _ _).alloc (Nat.le_refl _) _⟩

set_option maxHeartbeats 400000 in
theorem rsum_any (h l l2 : Nat) (w : World) (hh : h + 1 < 18446744073709551616) (hl : l < 18446744073709551616) (hl2 : l2 < 18446744073709551616) :
    Calls Tryd.prog 56 #[wordsV h l, .int .u64 l2] w fun e w' => e = .returned (wordsV ((h + (l + l2) / 18446744073709551616 : Nat) : Int) (((l + l2) % 18446744073709551616 : Nat) : Int)) ∧ Below w.heap.size w w' := by
  obtain ⟨s, hs⟩ : ∃ x : Nat, x = (l + l2) % 18446744073709551616 := ⟨_, rfl⟩
  have e1 : IntKind.u64.wrap ((l : Int) + l2) = s := by rw [IntKind.wrap_u64]; omega
  rw [← hs]
  have hh' : (h : Int) < 18446744073709551615 := by omega
  by_cases hc : l + l2 < 18446744073709551616
  · have hd : (l + l2) / 18446744073709551616 = 0 := by omega
    rw [hd, Nat.add_zero]
    have t1 : decide (s < l) = false := by rw [decide_eq_false_iff_not]; omega
    clear hc hd hs hh hl hl2
    simp only [wordsV]
    go_enter Tryd.func56, Tryd.ntmps56
    go_wp2_with fail
    exact bodyPost_ret (v := wordsV h s) (by simp [results, Tryd.results56, go_sem, wordsV]) rfl ⟨rfl, ((Below.refl _ _).alloc (Nat.le_refl _) _).alloc (by simp) _⟩
  · have hd : (l + l2) / 18446744073709551616 = 1 := by omega
    rw [hd]
    have t1 : decide (s < l) = true := by rw [decide_eq_true_eq]; omega
    clear hc hd hs hh hl hl2
    simp only [wordsV]
    go_enter Tryd.func56, Tryd.ntmps56
    go_wp2_with fail
    exact bodyPost_ret (v := wordsV ((h + 1 : Nat) : Int) s) (by simp [results, Tryd.results56, go_sem, wordsV]) rfl ⟨rfl, ((Below.refl _ _).alloc (Nat.le_refl _) _).alloc (by simp) _⟩

set_option maxHeartbeats 400000 in
theorem rminus_any (V U : Nat) (w : World) (hV : V < 340282366920938463463374607431768211456) (hU : U ≤ V) :
    Calls Tryd.prog 58 #[wideV V, wideV U] w fun e w' => e = .returned (wideV (V - U)) ∧ Below w.heap.size w w' := by
  obtain ⟨v1, hv1⟩ : ∃ x : Nat, x = V / 18446744073709551616 := ⟨_, rfl⟩
  obtain ⟨v0, hv0⟩ : ∃ x : Nat, x = V % 18446744073709551616 := ⟨_, rfl⟩
  obtain ⟨u1, hu1⟩ : ∃ x : Nat, x = U / 18446744073709551616 := ⟨_, rfl⟩
  obtain ⟨u0, hu0⟩ : ∃ x : Nat, x = U % 18446744073709551616 := ⟨_, rfl⟩
  obtain ⟨d1, hd1⟩ : ∃ x : Nat, x = (V - U) / 18446744073709551616 := ⟨_, rfl⟩
  obtain ⟨d0, hd0⟩ : ∃ x : Nat, x = (V - U) % 18446744073709551616 := ⟨_, rfl⟩
  rw [wideV, wideV, wideV, ← hv1, ← hv0, ← hu1, ← hu0, ← hd1, ← hd0]
  have e1 : IntKind.u64.wrap ((v0 : Int) - u0) = d0 := by rw [IntKind.wrap_u64]; omega
  by_cases hc : v0 < u0
  · have t1 : decide (v0 < u0) = true := decide_eq_true hc
    have e2 : IntKind.u64.wrap ((v1 : Int) - u1) = ((d1 + 1 : Nat) : Int) := by rw [IntKind.wrap_u64]; omega
    have e3 : (d1 : Int) < 18446744073709551615 := by omega
    clear hc hv1 hv0 hu1 hu0 hd1 hd0 hV hU
    simp only [wordsV]
    go_enter Tryd.func58, Tryd.ntmps58
    go_wp2_with fail
    exact bodyPost_ret (v := wordsV d1 d0) (by simp [results, Tryd.results58, go_sem, wordsV]) rfl ⟨rfl, (((Below.refl _ _).alloc (Nat.le_refl _) _).alloc (by simp) _).alloc (by simp; omega) _⟩
  · have t1 : decide (v0 < u0) = false := decide_eq_false hc
    have e2 : IntKind.u64.wrap ((v1 : Int) - u1) = d1 := by rw [IntKind.wrap_u64]; omega
    clear hc hv1 hv0 hu1 hu0 hd1 hd0 hV hU
    simp only [wordsV]
    go_enter Tryd.func58, Tryd.ntmps58
    go_wp2_with fail
    exact bodyPost_ret (v := wordsV d1 d0) (by simp [results, Tryd.results58, go_sem, wordsV]) rfl ⟨rfl, (((Below.refl _ _).alloc (Nat.le_refl _) _).alloc (by simp) _).alloc (by simp; omega) _⟩
end Go.Proofs.YtgpbcdelaipifaaDoor
