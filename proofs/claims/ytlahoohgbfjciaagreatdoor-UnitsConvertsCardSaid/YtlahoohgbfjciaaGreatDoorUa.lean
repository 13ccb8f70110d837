/- Contracts of units.inScale and units.divisor. -/
import Derived.Test.YtlahoohgbfjciaaGreatDoorV
namespace Go.Proofs.YtlahoohgbfjciaaGreatDoor
open Go.RowKit Go.Shelf

def inScaleB (n : Int) : Bool := decide (1 ≤ n) && decide (n ≤ 100000000000)
theorem inScale_iff (n : Int) : inScaleB n = true ↔ 1 ≤ n ∧ n ≤ 100000000000 := by unfold inScaleB; rw [Bool.and_eq_true, decide_eq_true_eq, decide_eq_true_eq]

set_option maxHeartbeats 400000 in
theorem inScale_any (n : Int) (w : World) : Calls Tryz.prog 23 #[.int .i64 n] w fun e w' => e = .returned (.bool (inScaleB n)) ∧ w = w' := by
  unfold inScaleB
  by_cases h1 : 1 ≤ n
  · have t1 : decide (1 ≤ n) = true := decide_eq_true h1
    have hz : (decide (1 ≤ n) && decide (n ≤ 100000000000)) = decide (n ≤ 100000000000) := by rw [t1, Bool.true_and]
    rw [hz]
    clear h1 hz
    go_enter Tryz.func23, Tryz.ntmps23
    go_wp2_with fail
    go_ret
    exact ⟨rfl, rfl⟩
  · have t1 : decide (1 ≤ n) = false := decide_eq_false h1
    rw [t1, Bool.false_and]
    clear h1
    go_enter Tryz.func23, Tryz.ntmps23
    go_wp2_with fail
    go_ret
    exact ⟨rfl, rfl⟩

theorem gcd_step (x y : Nat) : Nat.gcd y (x % y) = Nat.gcd x y := by
  rw [Nat.gcd_comm x y, Nat.gcd_rec y x, Nat.gcd_comm]

set_option maxHeartbeats 1000000 in
theorem divisor_any (a b : Nat) (w : World) (ha : a ≤ 4611686018427387904) (hb : b ≤ 4611686018427387904) :
    Calls Tryz.prog 24 #[.int .i64 a, .int .i64 b] w fun e w' => e = .returned (.int .i64 (Nat.gcd a b)) ∧ Below w.heap.size w w' := by
  obtain ⟨G, hG⟩ : ∃ G, G = Nat.gcd a b := ⟨_, rfl⟩
  have HG := Lib.hid hG
  have HB := Lib.hid (And.intro ha hb)
  rw [← hG]
  clear hG ha hb
  go_enter Tryz.func24, Tryz.ntmps24
  go_wp2_with fail
  go_loopw [0, 1] (fun x y wr => ∃ p q : Nat, x = .int .i64 p ∧ y = .int .i64 q ∧ p ≤ 4611686018427387904 ∧ q ≤ 4611686018427387904 ∧ Hid (Nat.gcd p q = G) ∧ Below w.heap.size w wr) (fun _ y _ => (intOf y).toNat)
  case atStart => exact ⟨a, b, rfl, rfl, HB.out.1, HB.out.2, HG.out.symm, Below.refl _ _⟩
  case round =>
    obtain ⟨p, q, rfl, rfl, hp, hq, hg, hbel⟩ := hrel
    have BR := Lib.hid hbel
    clear hbel
    by_cases h0 : q = 0
    · subst h0
      have hgp : p = G := by have := hg.out; rwa [Nat.gcd_zero_right] at this
      subst hgp
      clear hg
      go_wp2_with fail
      go_ret
      exact ⟨rfl, BR.out⟩
    · have t0 : ((q : Int) != 0) = true := by rw [bne_iff_ne]; omega
      have t1 : ((q : Int) == 0) = false := by rw [beq_eq_false_iff_ne]; omega
      have t2 : (q == 0) = false := by rw [beq_eq_false_iff_ne]; omega
      have t3 : (q != 0) = true := by rw [bne_iff_ne]; omega
      have t4 : ¬ q = 0 := h0
      obtain ⟨r, hr⟩ : ∃ r, r = p % q := ⟨_, rfl⟩
      have f1 : (p : Int).tmod (q : Int) = (r : Int) := by
        rw [hr, Int.tmod_eq_emod_of_nonneg (by omega)]
        omega
      have f2 : p % q = r := hr.symm
      have hlt : r < q := by rw [hr]; exact Nat.mod_lt _ (by omega)
      have HN := Lib.hid (show Nat.gcd q r = G by rw [hr, gcd_step]; exact hg.out)
      have HL := Lib.hid hlt
      have HQ := Lib.hid hq
      clear hr hlt h0 hg hp hq
      go_wp2_with fail
      go_quiet (fail)
      go_wp2_with fail
      go_roundw
      case rel => exact ⟨q, r, rfl, rfl, HQ.out, by have := HL.out; have := HQ.out; omega, HN, BR.out.trans ⟨rfl, rfl, rfl, Nat.le_refl _, fun _ _ => rfl⟩⟩
      case measure => have := HL.out; simp [intOf]; omega
end Go.Proofs.YtlahoohgbfjciaaGreatDoor
