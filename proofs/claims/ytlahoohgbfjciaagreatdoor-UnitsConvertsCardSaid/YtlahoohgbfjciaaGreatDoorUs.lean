/- Bounds of a conversion, plain. -/
import Derived.Test.YtlahoohgbfjciaaGreatDoorUd
import Derived.Test.YtlahoohgbfjciaaGreatDoorUr
namespace Go.Proofs.YtlahoohgbfjciaaGreatDoor
open Go.RowKit Go.Shelf

/-- the distance from the 0 of the unit v, of which u.d are one in the base units -/
def distI (x : Int) (u v : UnitD) : Int := x * u.n + (u.o - v.o) * u.d

theorem prod_bound {a b A B : Int} (hA : 0 ≤ A) (h1 : -A ≤ a) (h2 : a ≤ A) (h3 : 0 ≤ b) (h4 : b ≤ B) : -(A * B) ≤ a * b ∧ a * b ≤ A * B := by
  have u1 := Int.mul_le_mul_of_nonneg_right h2 h3
  have u2 := Int.mul_le_mul_of_nonneg_left h4 hA
  have u3 := Int.mul_le_mul_of_nonneg_right h1 h3
  rw [Int.neg_mul] at u3
  omega
theorem dist_bound {x : Int} {u v : UnitD} (hx : -1000000000000000 ≤ x) (hx2 : x ≤ 1000000000000000) (hn : 1 ≤ u.n) (hn2 : u.n ≤ 100000000000) (hd : 1 ≤ u.d) (hd2 : u.d ≤ 100000000000) (ho : -1000000 ≤ u.o) (ho2 : u.o ≤ 1000000) (hp : -1000000 ≤ v.o) (hp2 : v.o ≤ 1000000) (hv : 1 ≤ v.d) (hv2 : v.d ≤ 100000000000) :
    -42535295865117307932921825928971026432 < distI x u v * v.d ∧ distI x u v * v.d < 42535295865117307932921825928971026432 := by
  have h1 := prod_bound (by decide) hx hx2 (by omega) hn2
  have h2 := prod_bound (A := 2000000) (by decide) (show -2000000 ≤ u.o - v.o by omega) (by omega) (by omega) hd2
  have h3 := prod_bound (a := distI x u v) (A := 100000200000000000000000000) (by decide) (by unfold distI; omega) (by unfold distI; omega) (by omega) hv2
  omega
theorem quoN_bound {V a b : Int} (hV : 0 ≤ V) (hV2 : V < 42535295865117307932921825928971026432) (ha : 1 ≤ a) (hb : 1 ≤ b) : 0 ≤ quoN V a b ∧ quoN V a b < 85070591730234615865843651857942052865 := by
  obtain ⟨p1, p2⟩ := quoN_facts V a hV hV2 ha
  unfold quoN
  have h1 := Int.ediv_nonneg (show 0 ≤ 2 * V / a + b by omega) (show 0 ≤ 2 * b by omega)
  have h2 : (2 * V / a + b) / (2 * b) ≤ (2 * V / a + b) / b := by
    refine Int.le_ediv_of_mul_le (by omega) ?_
    have h4 := Int.ediv_mul_le (2 * V / a + b) (show 2 * b ≠ 0 by omega)
    have h5 : (2 * V / a + b) / (2 * b) * (2 * b) = 2 * ((2 * V / a + b) / (2 * b) * b) := by rw [Int.mul_left_comm]
    have h6 := Int.mul_nonneg h1 (show 0 ≤ b by omega)
    omega
  have h3 : (2 * V / a + b) / b = 2 * V / a / b + 1 := Int.add_ediv_of_dvd_right (Int.dvd_refl b) |>.trans (by rw [Int.ediv_self (by omega)])
  have h4 := Int.ediv_le_self b p1
  omega
theorem quoR_bound {V a b : Int} (hV : -42535295865117307932921825928971026432 < V) (hV2 : V < 42535295865117307932921825928971026432) (ha : 1 ≤ a) (hb : 1 ≤ b) : -85070591730234615865843651857942052865 < quoR V a b ∧ quoR V a b < 85070591730234615865843651857942052865 := by
  unfold quoR
  by_cases h : V < 0
  · rw [if_pos h]
    have := quoN_bound (V := -V) (a := a) (b := b) (by omega) (by omega) ha hb
    omega
  · rw [if_neg h]
    have := quoN_bound (V := V) (a := a) (b := b) (by omega) hV2 ha hb
    omega
end Go.Proofs.YtlahoohgbfjciaaGreatDoor
