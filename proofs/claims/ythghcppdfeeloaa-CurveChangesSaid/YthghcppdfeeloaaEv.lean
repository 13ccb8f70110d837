/- The contract of curve.value: a knot on each side is looked for; the line through both. -/
import Derived.Test.YthghcppdfeeloaaSe
import Derived.IntWalk
import Derived.Deep.RegionHeld3
namespace Go.Proofs.Ythghcppdfeeloaa
open Go.RowKit

/-- the first knot behind x, or how many there are -/
def behind (ks : List (Int × Int)) (x : Int) : Nat := (List.range ks.length).findIdx fun i => decide (x < kx ks i)
theorem findIdx_range (p : Nat → Bool) (n : Nat) : (List.range n).findIdx p ≤ n ∧ (∀ i, i < (List.range n).findIdx p → p i = false) ∧ ((List.range n).findIdx p < n → p ((List.range n).findIdx p) = true) := by
  have hl : (List.range n).findIdx p ≤ n := by have := @List.findIdx_le_length _ p (List.range n); rwa [List.length_range] at this
  refine ⟨hl, fun i hi => ?_, fun h => ?_⟩
  · have := List.not_of_lt_findIdx hi
    simpa using this
  · have := @List.findIdx_getElem _ p (List.range n) (by rw [List.length_range]; exact h)
    simpa using this
theorem rise_mono (ks : List (Int × Int)) (h : riseL ks (ks.length - 1) = true) : ∀ j i, i ≤ j → j < ks.length → kx ks i ≤ kx ks j
  | 0, i, h1, _ => by obtain rfl : i = 0 := by omega
                      exact Int.le_refl _
  | j + 1, i, h1, h2 => by
    by_cases he : i = j + 1
    · subst he; exact Int.le_refl _
    · have := rise_mono ks h j i (by omega) (by omega)
      have h3 := of_decide_eq_true (all_at _ j _ h (by omega))
      omega
theorem behind_facts (ks : List (Int × Int)) (x : Int) (h : riseL ks (ks.length - 1) = true) : behind ks x ≤ ks.length ∧ (∀ i, i < behind ks x → decide (x < kx ks i) = false) ∧ (∀ i, behind ks x ≤ i → i < ks.length → decide (x < kx ks i) = true) := by
  obtain ⟨h1, h2, h3⟩ := findIdx_range (fun i => decide (x < kx ks i)) ks.length
  refine ⟨h1, h2, fun i hi hn => ?_⟩
  have h4 := of_decide_eq_true (h3 (by unfold behind at hi; omega))
  have h5 := rise_mono ks h i _ hi hn
  unfold behind at h5
  rw [decide_eq_true_eq]; omega
/-- the value of a curve -/
def valI (ks : List (Int × Int)) (x : Int) : Int :=
  lineI x (kx ks (behind ks x - 1)) (ky ks (behind ks x - 1)) (kx ks (min (behind ks x) (ks.length - 1))) (ky ks (min (behind ks x) (ks.length - 1)))

set_option maxHeartbeats 400000 in
theorem above_any (bc bx b off cap n : Nat) (x X : Int) (i : Nat) (w : World) (hi : i < n) (hc : w.cell? ⟨bc, 0, none⟩ = some (.slice (some ⟨b, off, none⟩) n cap)) (hx : w.cell? ⟨bx, 0, none⟩ = some (.int .i64 x)) (hX : w.cell? ⟨b, off + i * 2, none⟩ = some (.int .i64 X)) :
    Calls Try.prog 46 (#[.int .i64 i] ++ #[.pointer (some ⟨bc, 0, none⟩), .pointer (some ⟨bx, 0, none⟩)]) w fun e w' => e = .returned (.bool (decide (x < X))) ∧ Below w.heap.size w w' := by
  have hi' : (i : Int) < n := by omega
  go_enter Try.func46, Try.ntmps46
  go_wp2_with fail
  go_quiet (fail)
  go_wp2_with fail
  go_ret
  exact ⟨rfl, below_drewN _ _ _⟩

set_option maxHeartbeats 1000000 in
theorem value_any (b off cap : Nat) (ks : List (Int × Int)) (x : Int) (w : World) (h0 : 0 < ks.length) (h32 : ks.length ≤ 32) (hb : b < w.heap.size) (hc : Knots w b off ks) (hr : riseL ks (ks.length - 1) = true) :
    Calls Try.prog 30 #[.slice (some ⟨b, off, none⟩) ks.length cap, .int .i64 x] w fun e w' => e = .returned (.int .i64 (valI ks x)) ∧ Below w.heap.size w w' := by
  obtain ⟨r1, r2, r3⟩ := behind_facts ks x hr
  have hl := fun w => line_any x (kx ks (behind ks x - 1)) (ky ks (behind ks x - 1)) (kx ks (min (behind ks x) (ks.length - 1))) (ky ks (min (behind ks x) (ks.length - 1))) w
  obtain ⟨z, hz⟩ : ∃ z, z = valI ks x := ⟨_, rfl⟩
  rw [← hz]
  have hs := fun (w : World) (bc bx : Nat) (ha : bc < w.heap.size) (hbx : bx < w.heap.size) (hb : b < w.heap.size) (ca : w.cell? ⟨bc, 0, none⟩ = some (.slice (some ⟨b, off, none⟩) ks.length cap)) (cx : w.cell? ⟨bx, 0, none⟩ = some (.int .i64 x)) (ck : Knots w b off ks) =>
    search_any 46 #[.pointer (some ⟨bc, 0, none⟩), .pointer (some ⟨bx, 0, none⟩)] ks.length (fun i => decide (x < kx ks i)) w (behind ks x) (enters_of Try.func46 (by kernel_rfl) rfl) (by omega)
      (fun w' i hi hbel => above_any bc bx b off cap ks.length x (kx ks i) i w' hi ((hbel.cell (p := ⟨bc, 0, none⟩) ha).trans ca) ((hbel.cell (p := ⟨bx, 0, none⟩) hbx).trans cx) (ck.at hb hbel i hi).1) r1 r2 r3
  obtain ⟨R, hR⟩ : ∃ R, R = behind ks x := ⟨_, rfl⟩
  rw [← hR] at hs hl r1
  have e1 : max ((R : Int) - 1) 0 = ((R - 1 : Nat) : Int) := by omega
  have e2 : min (R : Int) ((ks.length : Int) - 1) = ((min R (ks.length - 1) : Nat) : Int) := by omega
  have c1 := hc (R - 1) (by omega)
  have c2 := hc (min R (ks.length - 1)) (by omega)
  have hi1 : R - 1 < ks.length := by omega
  have hi2 : min R (ks.length - 1) < ks.length := by omega
  obtain ⟨i1, hi1e⟩ : ∃ i, i = R - 1 := ⟨_, rfl⟩
  obtain ⟨i2, hi2e⟩ : ∃ i, i = min R (ks.length - 1) := ⟨_, rfl⟩
  have hzz : z = lineI x (kx ks i1) (ky ks i1) (kx ks i2) (ky ks i2) := by rw [hz, hi1e, hi2e, hR]; rfl
  rw [← hi1e] at hl c1 e1 hi1
  rw [← hi2e] at hl c2 e2 hi2
  obtain ⟨X1, hX1⟩ : ∃ X, X = kx ks i1 := ⟨_, rfl⟩
  obtain ⟨Y1, hY1⟩ : ∃ X, X = ky ks i1 := ⟨_, rfl⟩
  obtain ⟨X2, hX2⟩ : ∃ X, X = kx ks i2 := ⟨_, rfl⟩
  obtain ⟨Y2, hY2⟩ : ∃ X, X = ky ks i2 := ⟨_, rfl⟩
  rw [← hX1, ← hY1, ← hX2, ← hY2] at hl hzz
  rw [← hzz] at hl
  rw [← hX1, ← hY1] at c1
  rw [← hX2, ← hY2] at c2
  obtain ⟨c1a, c1b⟩ := c1
  obtain ⟨c2a, c2b⟩ := c2
  obtain ⟨n, hn⟩ : ∃ n, n = ks.length := ⟨_, rfl⟩
  rw [← hn] at hs e2 hi1 hi2 h32 h0 r1 ⊢
  have HC := Lib.hid hc
  have HL := Lib.hid hl
  have HS := Lib.hid hs
  have HA := Lib.hid (And.intro c1a (And.intro c1b (And.intro c2a c2b)))
  clear hc hz hl hr hs r2 r3 hR hi1e hi2e hX1 hX2 hY1 hY2 hzz c1a c1b c2a c2b hn
  go_enter Try.func30, Try.ntmps30
  go_wp2_with fail
  refine (HS.out _ _ _ (by rw [World.size_alloc, World.size_alloc]; omega) (by rw [World.size_alloc, World.size_alloc]; omega) (by rw [World.size_alloc, World.size_alloc]; omega) (cell_alloc_sl _ (cell_new_sl w _ _)) (by have := cell_new_sl (w.alloc (.cells #[.slice (some ⟨b, off, none⟩) n cap] 22)) (Value.int .i64 x) 2; rwa [World.size_alloc] at this) (HC.out.at hb (((Below.refl _ w).alloc (Nat.le_refl _) _).alloc (by rw [World.size_alloc]; omega) _))).mono ?_
  rintro e w1 ⟨rfl, hb1⟩
  have B0 : Below w.heap.size w ((w.alloc (.cells #[.slice (some ⟨b, off, none⟩) n cap] 22)).alloc (.cells #[.int .i64 x] 2)) := ((Below.refl _ w).alloc (Nat.le_refl _) _).alloc (by rw [World.size_alloc]; omega) _
  have B1 := Lib.hid (B0.trans (hb1.mono B0.size))
  have d1 : w1.cell? ⟨w.heap.size, 0, none⟩ = some (.slice (some ⟨b, off, none⟩) n cap) := (hb1.cell (p := ⟨w.heap.size, 0, none⟩) (by rw [World.size_alloc, World.size_alloc]; show w.heap.size < _; omega)).trans (cell_alloc_sl _ (cell_new_sl w _ _))
  have d2 : w1.cell? ⟨w.heap.size + 1, 0, none⟩ = some (.int .i64 x) := (hb1.cell (p := ⟨w.heap.size + 1, 0, none⟩) (by rw [World.size_alloc, World.size_alloc]; show w.heap.size + 1 < _; omega)).trans (by have := cell_new_sl (w.alloc (.cells #[.slice (some ⟨b, off, none⟩) n cap] 22)) (Value.int .i64 x) 2; rwa [World.size_alloc] at this)
  obtain ⟨a1, a2, a3, a4⟩ := HA.out
  have k1 : w1.cell? ⟨b, off + i1 * 2, none⟩ = some (.int .i64 X1) := (B1.out.cell (p := ⟨b, off + i1 * 2, none⟩) hb).trans a1
  have k2 : w1.cell? ⟨b, off + i1 * 2 + 1, none⟩ = some (.int .i64 Y1) := (B1.out.cell (p := ⟨b, off + i1 * 2 + 1, none⟩) hb).trans a2
  have k3 : w1.cell? ⟨b, off + i2 * 2, none⟩ = some (.int .i64 X2) := (B1.out.cell (p := ⟨b, off + i2 * 2, none⟩) hb).trans a3
  have k4 : w1.cell? ⟨b, off + i2 * 2 + 1, none⟩ = some (.int .i64 Y2) := (B1.out.cell (p := ⟨b, off + i2 * 2 + 1, none⟩) hb).trans a4
  have sz := hb1.size
  rw [World.size_alloc, World.size_alloc] at sz
  have s1 : w.heap.size < w1.heap.size := by omega
  have s2 : w.heap.size + 1 < w1.heap.size := by omega
  have s3 : b < w1.heap.size := by omega
  have p1 : (0 : Int) ≤ (i1 : Int) := by omega
  have p2 : (i1 : Int) < (n : Int) := by omega
  have p3 : (0 : Int) ≤ (i2 : Int) := by omega
  have p4 : (i2 : Int) < (n : Int) := by omega
  have f1 : IntKind.i64.wrap ((R : Int) - 1) = (R : Int) - 1 := IntWalk.i64_in _ (by omega)
  have f2 : IntKind.i64.wrap ((n : Int) - 1) = (n : Int) - 1 := IntWalk.i64_in _ (by omega)
  clear hb1 B0 a1 a2 a3 a4 HA sz
  go_wp2_with fail
  go_region_held3 (fun w' => w'.cell? ⟨w.heap.size, 0, none⟩ = some (.slice (some ⟨b, off, none⟩) n cap) ∧ w'.cell? ⟨b, off + i1 * 2, none⟩ = some (.int .i64 X1) ∧ w'.cell? ⟨b, off + i1 * 2 + 1, none⟩ = some (.int .i64 Y1) ∧ w'.cell? ⟨b, off + i2 * 2, none⟩ = some (.int .i64 X2) ∧ w'.cell? ⟨b, off + i2 * 2 + 1, none⟩ = some (.int .i64 Y2))
    (first | go_keep) ((fail))
  all_goals
    rename_i hHeld
    clear hHeld
    go_wp2_with fail
    refine (HL.out _).mono ?_
    rintro e w2 ⟨rfl, hb2⟩
    have B2 := Lib.hid (((B1.out.alloc B1.out.size _).alloc (by rw [World.size_alloc]; exact Nat.le_succ_of_le B1.out.size) _).drew.trans (hb2.mono (by rw [World.size_drew, World.size_alloc, World.size_alloc]; omega)))
    clear hb2
    go_wp2_with fail
    go_ret
    exact ⟨rfl, B2.out⟩
end Go.Proofs.Ythghcppdfeeloaa
