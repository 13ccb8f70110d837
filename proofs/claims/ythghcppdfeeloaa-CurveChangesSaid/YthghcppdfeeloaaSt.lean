/- Contracts of curve.straight and curve.needless. -/
import Derived.Test.YthghcppdfeeloaaAr
namespace Go.Proofs.Ythghcppdfeeloaa
open Go.RowKit

/-- the point (bx, by') lies on the line through the two others -/
def lineB (ax ay bx by' cx cy : Int) : Bool := decide ((by' - ay) * (cx - bx) = (cy - by') * (bx - ax))
structure KnotAt (w : World) (b : Nat) (x y : Int) : Prop where
  c0 : w.cell? ⟨b, 0, none⟩ = some (.int .i64 x)
  c1 : w.cell? ⟨b, 1, none⟩ = some (.int .i64 y)
theorem KnotAt.keep {w w' : World} {b : Nat} {x y : Int} (h : KnotAt w b x y) (hb : Below w.heap.size w w') : KnotAt w' b x y := by
  have hlt : b < w.heap.size := World.block_lt_of_cell? _ _ h.c0
  exact ⟨(hb.cell (p := ⟨b, 0, none⟩) hlt).trans h.c0, (hb.cell (p := ⟨b, 1, none⟩) hlt).trans h.c1⟩
theorem knot_fresh (w : World) (x y : Int) : KnotAt (w.alloc (Obj.cells #[.int .i64 x, .int .i64 y] 50)) w.heap.size x y := ⟨by simp, by simp⟩
abbrev knotV (x y : Int) : Value := .agg #[.int .i64 x, .int .i64 y]
theorem words_inj (V U : Int) (v1 : -170141183460469231731687303715884105728 ≤ V) (v2 : V < 170141183460469231731687303715884105728) (u1 : -170141183460469231731687303715884105728 ≤ U) (u2 : U < 170141183460469231731687303715884105728) : (hiW V = hiW U ∧ loW V = loW U) ↔ V = U := by
  constructor
  · unfold hiW loW; omega
  · rintro rfl; exact ⟨rfl, rfl⟩
/-- a number within the limits -/
def In (n : Int) : Prop := -1000000000000 ≤ n ∧ n ≤ 1000000000000

set_option maxRecDepth 100000 in
set_option maxHeartbeats 8000000 in
theorem straight_any (ax ay bx by' cx cy : Int) (w : World) (h1 : In ax) (h2 : In ay) (h3 : In bx) (h4 : In by') (h5 : In cx) (h6 : In cy) :
    Calls Try.prog 65 #[knotV ax ay, knotV bx by', knotV cx cy] w fun e w' => e = .returned (.bool (lineB ax ay bx by' cx cy)) ∧ Below w.heap.size w w' := by
  unfold In at h1 h2 h3 h4 h5 h6
  have hL : lineB ax ay bx by' cx cy = decide ((by' - ay) * (cx - bx) = (cy - by') * (bx - ax)) := rfl
  obtain ⟨D1, hD1⟩ : ∃ D, D = by' - ay := ⟨_, rfl⟩
  obtain ⟨E1, hE1⟩ : ∃ D, D = cx - bx := ⟨_, rfl⟩
  obtain ⟨D2, hD2⟩ : ∃ D, D = cy - by' := ⟨_, rfl⟩
  obtain ⟨E2, hE2⟩ : ∃ D, D = bx - ax := ⟨_, rfl⟩
  rw [← hD1, ← hE1, ← hD2, ← hE2] at hL
  have p1 := prod_small D1 E1 (by omega) (by omega) (by omega) (by omega)
  have p2 := prod_small D2 E2 (by omega) (by omega) (by omega) (by omega)
  have O1 := Lib.hid fun w => aof D1 w (by omega) (by omega)
  have O2 := Lib.hid fun w => aof D2 w (by omega) (by omega)
  have T1 := Lib.hid fun w => atimes D1 E1 w (by omega) (by omega)
  have T2 := Lib.hid fun w => atimes D2 E2 w (by omega) (by omega)
  have e1 : IntKind.i64.wrap (by' - ay) = D1 := by rw [hD1]; exact IntWalk.i64_in _ ⟨by omega, by omega⟩
  have e2 : IntKind.i64.wrap (cx - bx) = E1 := by rw [hE1]; exact IntWalk.i64_in _ ⟨by omega, by omega⟩
  have e3 : IntKind.i64.wrap (cy - by') = D2 := by rw [hD2]; exact IntWalk.i64_in _ ⟨by omega, by omega⟩
  have e4 : IntKind.i64.wrap (bx - ax) = E2 := by rw [hE2]; exact IntWalk.i64_in _ ⟨by omega, by omega⟩
  obtain ⟨P, hP⟩ : ∃ P, P = D1 * E1 := ⟨_, rfl⟩
  obtain ⟨Q, hQ⟩ : ∃ P, P = D2 * E2 := ⟨_, rfl⟩
  rw [← hP] at T1 p1 hL
  rw [← hQ] at T2 p2 hL
  have hw := words_inj P Q (by omega) (by omega) (by omega) (by omega)
  have hE : ((hiW P == hiW Q) && (loW P == loW Q)) = lineB ax ay bx by' cx cy := by
    rw [hL, Bool.eq_iff_iff, Bool.and_eq_true, beq_iff_eq, beq_iff_eq, decide_eq_true_eq]; exact hw
  obtain ⟨z, hz⟩ : ∃ z, z = lineB ax ay bx by' cx cy := ⟨_, rfl⟩
  rw [← hz] at hE ⊢
  clear hL hD1 hE1 hD2 hE2 p1 p2 hP hQ hw hz h1 h2 h3 h4 h5 h6
  cases hA : (hiW P == hiW Q) <;> cases hB : (loW P == loW Q)
  all_goals
    rw [hA, hB] at hE
    have HE := Lib.hid (congrArg (fun b => Ending.returned (Value.bool b)) hE)
    clear hE
    go_enter Try.func65, Try.ntmps65
    go_wp2_with fail
    obtain ⟨W, hW⟩ : ∃ W, W = ((w.alloc (Obj.cells #[.int .i64 ax, .int .i64 ay] 50)).alloc (Obj.cells #[.int .i64 bx, .int .i64 by'] 50)).alloc (Obj.cells #[.int .i64 cx, .int .i64 cy] 50) := ⟨_, rfl⟩
    rw [← hW]
    have K0 : KnotAt W w.heap.size ax ay := by
      rw [hW]
      exact KnotAt.keep (w := w.alloc (Obj.cells #[.int .i64 ax, .int .i64 ay] 50)) ⟨by simp, by simp⟩ (((Below.refl _ _).alloc (Nat.le_refl _) _).alloc (by simp) _)
    have K1 : KnotAt W (w.heap.size + 1) bx by' := by
      rw [hW]
      exact KnotAt.keep ⟨by simp, by simp⟩ ((Below.refl _ _).alloc (Nat.le_refl _) _)
    have K2 : KnotAt W (w.heap.size + 1 + 1) cx cy := by
      rw [hW]
      have e : w.heap.size + 1 + 1 = ((w.alloc (Obj.cells #[.int .i64 ax, .int .i64 ay] 50)).alloc (Obj.cells #[.int .i64 bx, .int .i64 by'] 50)).heap.size := by simp
      rw [e]
      exact knot_fresh _ _ _
    have B : Below w.heap.size w W := by rw [hW]; exact (((Below.refl _ _).alloc (Nat.le_refl _) _).alloc (by simp) _).alloc (by simp; omega) _
    clear hW
    generalize w.heap.size + 1 + 1 = p2 at K2 ⊢
    generalize w.heap.size + 1 = p1 at K1 ⊢
    obtain ⟨p0, hp0⟩ : ∃ p, p = w.heap.size := ⟨_, rfl⟩
    rw [← hp0] at K0 B ⊢
    have HP0 := Lib.hid hp0
    have l0 : p0 < W.heap.size := World.block_lt_of_cell? _ _ K0.c0
    have l1 : p1 < W.heap.size := World.block_lt_of_cell? _ _ K1.c0
    have l2 : p2 < W.heap.size := World.block_lt_of_cell? _ _ K2.c0
    have HS := Lib.hid (show W.drew.cell? ⟨p0, 0, none⟩ = some (.int .i64 ax) ∧ W.drew.cell? ⟨p0, 1, none⟩ = some (.int .i64 ay) ∧ W.drew.cell? ⟨p1, 0, none⟩ = some (.int .i64 bx) ∧ W.drew.cell? ⟨p1, 1, none⟩ = some (.int .i64 by') ∧ W.drew.cell? ⟨p2, 0, none⟩ = some (.int .i64 cx) ∧ W.drew.cell? ⟨p2, 1, none⟩ = some (.int .i64 cy) ∧ W.heap.size ≤ W.drew.heap.size ∧ Below p0 w W.drew from ⟨K0.c0, K0.c1, K1.c0, K1.c1, K2.c0, K2.c1, Nat.le_refl _, B.trans (below_drewN _ _ 1)⟩)
    clear K0 K1 K2 B hp0
    go_region_held3 (fun w' => w'.cell? ⟨p0, 0, none⟩ = some (.int .i64 ax) ∧ w'.cell? ⟨p0, 1, none⟩ = some (.int .i64 ay) ∧ w'.cell? ⟨p1, 0, none⟩ = some (.int .i64 bx) ∧ w'.cell? ⟨p1, 1, none⟩ = some (.int .i64 by') ∧ w'.cell? ⟨p2, 0, none⟩ = some (.int .i64 cx) ∧ w'.cell? ⟨p2, 1, none⟩ = some (.int .i64 cy) ∧ W.heap.size ≤ w'.heap.size ∧ Below p0 w w')
      (first | exact HS.out | (have hh := ‹_ ∧ _ ∧ _ ∧ _ ∧ _ ∧ _ ∧ _ ≤ _ ∧ Below _ _ _›; exact ⟨(hb2.cell (p := ⟨p0, 0, none⟩) (Nat.lt_of_lt_of_le l0 hh.2.2.2.2.2.2.1)).trans hh.1, (hb2.cell (p := ⟨p0, 1, none⟩) (Nat.lt_of_lt_of_le l0 hh.2.2.2.2.2.2.1)).trans hh.2.1, (hb2.cell (p := ⟨p1, 0, none⟩) (Nat.lt_of_lt_of_le l1 hh.2.2.2.2.2.2.1)).trans hh.2.2.1, (hb2.cell (p := ⟨p1, 1, none⟩) (Nat.lt_of_lt_of_le l1 hh.2.2.2.2.2.2.1)).trans hh.2.2.2.1, (hb2.cell (p := ⟨p2, 0, none⟩) (Nat.lt_of_lt_of_le l2 hh.2.2.2.2.2.2.1)).trans hh.2.2.2.2.1, (hb2.cell (p := ⟨p2, 1, none⟩) (Nat.lt_of_lt_of_le l2 hh.2.2.2.2.2.2.1)).trans hh.2.2.2.2.2.1, Nat.le_trans hh.2.2.2.2.2.2.1 hb2.size, hh.2.2.2.2.2.2.2.trans (hb2.mono (Nat.le_trans (Nat.le_of_lt l0) hh.2.2.2.2.2.2.1))⟩) | go_keep)
      (first | (go_at_call_of 38 (Value.int IntKind.i64 D1); have hh := ‹_ ∧ _ ∧ _ ∧ _ ∧ _ ∧ _ ∧ _ ≤ _ ∧ Below _ _ _›; refine (O1.out _).mono ?_; rintro e w2 ⟨rfl, hb2⟩) | (go_at_call_of 38 (Value.int IntKind.i64 D2); have hh := ‹_ ∧ _ ∧ _ ∧ _ ∧ _ ∧ _ ∧ _ ≤ _ ∧ Below _ _ _›; refine (O2.out _).mono ?_; rintro e w2 ⟨rfl, hb2⟩) | (go_at_call_of 40 (Value.int IntKind.i64 E1); have hh := ‹_ ∧ _ ∧ _ ∧ _ ∧ _ ∧ _ ∧ _ ≤ _ ∧ Below _ _ _›; refine (T1.out _).mono ?_; rintro e w2 ⟨rfl, hb2⟩) | (go_at_call_of 40 (Value.int IntKind.i64 E2); have hh := ‹_ ∧ _ ∧ _ ∧ _ ∧ _ ∧ _ ∧ _ ≤ _ ∧ Below _ _ _›; refine (T2.out _).mono ?_; rintro e w2 ⟨rfl, hb2⟩))
    all_goals
      have B2 := Lib.hid (hh.2.2.2.2.2.2.2.trans (hb2.mono (Nat.le_trans (Nat.le_of_lt l0) hh.2.2.2.2.2.2.1)))
      clear hb2 hh HS
      go_wp2_with fail
      go_ret
      exact ⟨HE.out, by rw [← HP0.out]; exact B2.out⟩

/-- the knot at i can be left out -/
def needB (ks : List (Int × Int)) (i : Nat) : Bool :=
  if ks.length = 1 then false else if i = 0 then ky ks 0 == ky ks 1 else if i = ks.length - 1 then ky ks (ks.length - 1 - 1) == ky ks (ks.length - 1) else lineB (kx ks (i - 1)) (ky ks (i - 1)) (kx ks i) (ky ks i) (kx ks (i + 1)) (ky ks (i + 1))

set_option maxRecDepth 100000 in
set_option maxHeartbeats 8000000 in
theorem needless_any (b off cap i : Nat) (ks : List (Int × Int)) (w : World) (hi : i < ks.length) (h32 : ks.length ≤ 32) (hfit : fitL ks ks.length = true) (hb : b < w.heap.size) (hc : Knots w b off ks) :
    Calls Try.prog 54 #[.slice (some ⟨b, off, none⟩) ks.length cap, .int .i64 i] w fun e w' => e = .returned (.bool (needB ks i)) ∧ Below w.heap.size w w' := by
  have hN : needB ks i = if ks.length = 1 then false else if i = 0 then ky ks 0 == ky ks 1 else if i = ks.length - 1 then ky ks (ks.length - 1 - 1) == ky ks (ks.length - 1) else lineB (kx ks (i - 1)) (ky ks (i - 1)) (kx ks i) (ky ks i) (kx ks (i + 1)) (ky ks (i + 1)) := rfl
  have HF := Lib.hid fun i hi => fitb_at ks hfit i hi
  have HC := Lib.hid hc
  obtain ⟨n, hn⟩ : ∃ n, n = ks.length := ⟨_, rfl⟩
  rw [← hn] at hN hi h32 HF ⊢
  have HN := Lib.hid hn
  clear hn hc hfit
  by_cases h1 : n = 1
  · rw [if_pos h1] at hN
    rw [hN]
    have t0 : ((n : Int) - 1 == 0) = true := by rw [beq_iff_eq]; omega
    clear hN
    go_enter Try.func54, Try.ntmps54
    go_wp2_with fail
    go_ret
    exact ⟨rfl, Below.refl _ _⟩
  · rw [if_neg h1] at hN
    have t0 : ((n : Int) - 1 == 0) = false := by rw [beq_eq_false_iff_ne]; omega
    by_cases h2 : i = 0
    · rw [if_pos h2] at hN
      subst h2
      have c0 := (HC.out 0 (by rw [← HN.out]; omega)).2
      have c1 := (HC.out 1 (by rw [← HN.out]; omega)).2
      rw [hN]
      obtain ⟨Y0, hY0⟩ : ∃ Y, Y = ky ks 0 := ⟨_, rfl⟩
      obtain ⟨Y1, hY1⟩ : ∃ Y, Y = ky ks 1 := ⟨_, rfl⟩
      rw [← hY0] at c0 ⊢
      rw [← hY1] at c1 ⊢
      clear hN hY0 hY1
      have c0' : w.cell? ⟨b, off + 1, none⟩ = some (.int .i64 Y0) := by simpa using c0
      have c1' : w.cell? ⟨b, off + 2 + 1, none⟩ = some (.int .i64 Y1) := by simpa using c1
      have m0 : (1 : Int) < (n : Int) := by omega
      have m1 : (0 : Int) < (n : Int) := by omega
      have m2 : 1 < n := by omega
      have m3 : 0 < n := by omega
      clear c0 c1
      go_enter Try.func54, Try.ntmps54
      go_wp2_with fail
      go_quiet (fail)
      go_wp2_with fail
      go_ret
      exact ⟨rfl, below_drewN _ _ _⟩
    · rw [if_neg h2] at hN
      have t1 : ((i : Int) == 0) = false := by rw [beq_eq_false_iff_ne]; omega
      by_cases h3 : i = n - 1
      · rw [if_pos h3] at hN
        have t2 : ((i : Int) == (n : Int) - 1) = true := by rw [beq_iff_eq]; omega
        have c0 := (HC.out (n - 1 - 1) (by rw [← HN.out]; omega)).2
        have c1 := (HC.out (n - 1) (by rw [← HN.out]; omega)).2
        rw [hN]
        obtain ⟨Y0, hY0⟩ : ∃ Y, Y = ky ks (n - 1 - 1) := ⟨_, rfl⟩
        obtain ⟨Y1, hY1⟩ : ∃ Y, Y = ky ks (n - 1) := ⟨_, rfl⟩
        rw [← hY0] at c0 ⊢
        rw [← hY1] at c1 ⊢
        obtain ⟨q, hq⟩ : ∃ q, q = n - 1 := ⟨_, rfl⟩
        obtain ⟨r, hr⟩ : ∃ q, q = n - 1 - 1 := ⟨_, rfl⟩
        rw [← hr] at c0
        rw [← hq] at c1
        have m1 : (0 : Int) ≤ (n : Int) - 1 := by omega
        have m2 : (n : Int) - 1 < (n : Int) := by omega
        have m3 : (0 : Int) ≤ (n : Int) - 1 - 1 := by omega
        have m4 : (n : Int) - 1 - 1 < (n : Int) := by omega
        have m5 : ((n : Int) - 1).toNat = q := by omega
        have m6 : ((n : Int) - 1 - 1).toNat = r := by omega
        have m7 : IntKind.i64.wrap ((n : Int) - 1 - 1) = (n : Int) - 1 - 1 := IntWalk.i64_in _ ⟨by omega, by omega⟩
        have m8 : 1 ≤ n := by omega
        clear hN hY0 hY1 hq hr h2 h3
        go_enter Try.func54, Try.ntmps54
        go_wp2_with fail
        go_quiet (fail)
        go_wp2_with fail
        go_ret
        exact ⟨rfl, below_drewN _ _ _⟩
      · rw [if_neg h3] at hN
        have t2 : ((i : Int) == (n : Int) - 1) = false := by rw [beq_eq_false_iff_ne]; omega
        obtain ⟨p, hp⟩ : ∃ p, p = i - 1 := ⟨_, rfl⟩
        obtain ⟨s, hs⟩ : ∃ s, s = i + 1 := ⟨_, rfl⟩
        rw [← hp, ← hs] at hN
        have k0 := HC.out p (by rw [← HN.out]; omega)
        have k1 := HC.out i (by rw [← HN.out]; omega)
        have k2 := HC.out s (by rw [← HN.out]; omega)
        have f0 := HF.out p (by omega)
        have f1 := HF.out i (by omega)
        have f2 := HF.out s (by omega)
        have HL := Lib.hid fun w => straight_any (kx ks p) (ky ks p) (kx ks i) (ky ks i) (kx ks s) (ky ks s) w f0.1 f0.2 f1.1 f1.2 f2.1 f2.2
        rw [hN]
        obtain ⟨z, hz⟩ : ∃ z, z = lineB (kx ks p) (ky ks p) (kx ks i) (ky ks i) (kx ks s) (ky ks s) := ⟨_, rfl⟩
        rw [← hz] at HL ⊢
        obtain ⟨X0, hX0⟩ : ∃ Y, Y = kx ks p := ⟨_, rfl⟩
        obtain ⟨Y0, hY0⟩ : ∃ Y, Y = ky ks p := ⟨_, rfl⟩
        obtain ⟨X1, hX1⟩ : ∃ Y, Y = kx ks i := ⟨_, rfl⟩
        obtain ⟨Y1, hY1⟩ : ∃ Y, Y = ky ks i := ⟨_, rfl⟩
        obtain ⟨X2, hX2⟩ : ∃ Y, Y = kx ks s := ⟨_, rfl⟩
        obtain ⟨Y2, hY2⟩ : ∃ Y, Y = ky ks s := ⟨_, rfl⟩
        rw [← hX0, ← hY0, ← hX1, ← hY1, ← hX2, ← hY2] at HL
        rw [← hX0, ← hY0] at k0
        rw [← hX1, ← hY1] at k1
        rw [← hX2, ← hY2] at k2
        clear hN hz hX0 hY0 hX1 hY1 hX2 hY2 f0 f1 f2
        obtain ⟨a0, b0⟩ := k0
        obtain ⟨a1, b1⟩ := k1
        obtain ⟨a2, b2⟩ := k2
        have m0 : IntKind.i64.wrap ((i : Int) - 1) = (p : Int) := by rw [show (i : Int) - 1 = p by omega]; exact IntWalk.i64_in _ ⟨by omega, by omega⟩
        have m1 : IntKind.i64.wrap ((i : Int) + 1) = (s : Int) := by rw [show (i : Int) + 1 = s by omega]; exact IntWalk.i64_in _ ⟨by omega, by omega⟩
        have m2 : (0 : Int) ≤ (p : Int) := by omega
        have m3 : (p : Int) < (n : Int) := by omega
        have m4 : (0 : Int) ≤ (i : Int) := by omega
        have m5 : (i : Int) < (n : Int) := by omega
        have m6 : (0 : Int) ≤ (s : Int) := by omega
        have m7 : (s : Int) < (n : Int) := by omega
        clear hp hs h1 h2 h3
        go_enter Try.func54, Try.ntmps54
        go_wp2_with fail
        go_region_held3 (fun w' => w'.cell? ⟨b, off + p * 2, none⟩ = some (.int .i64 X0) ∧ w'.cell? ⟨b, off + p * 2 + 1, none⟩ = some (.int .i64 Y0) ∧ w'.cell? ⟨b, off + i * 2, none⟩ = some (.int .i64 X1) ∧ w'.cell? ⟨b, off + i * 2 + 1, none⟩ = some (.int .i64 Y1) ∧ w'.cell? ⟨b, off + s * 2, none⟩ = some (.int .i64 X2) ∧ w'.cell? ⟨b, off + s * 2 + 1, none⟩ = some (.int .i64 Y2))
          (first | (exact ⟨(hb2.cell (p := ⟨b, off + p * 2, none⟩) hb).trans a0, (hb2.cell (p := ⟨b, off + p * 2 + 1, none⟩) hb).trans b0, (hb2.cell (p := ⟨b, off + i * 2, none⟩) hb).trans a1, (hb2.cell (p := ⟨b, off + i * 2 + 1, none⟩) hb).trans b1, (hb2.cell (p := ⟨b, off + s * 2, none⟩) hb).trans a2, (hb2.cell (p := ⟨b, off + s * 2 + 1, none⟩) hb).trans b2⟩) | exact ⟨a0, b0, a1, b1, a2, b2⟩ | go_keep)
          (first | (go_at_call 65; refine (HL.out _).mono ?_; rintro e w2 ⟨rfl, hb2⟩))
        all_goals
          have B2 := Lib.hid ((below_drewN w.heap.size w 1).trans hb2)
          clear hb2
          go_wp2_with fail
          go_ret
          exact ⟨rfl, B2.out⟩
end Go.Proofs.Ythghcppdfeeloaa
