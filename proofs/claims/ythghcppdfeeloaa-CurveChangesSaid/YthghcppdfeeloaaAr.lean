/- The contract of curve.Area: the sum over the pieces, as a quotient and a rest. -/
import Derived.Test.YthghcppdfeeloaaWk
import Derived.Outline
namespace Go.Proofs.Ythghcppdfeeloaa
open Go.RowKit

/-- twice the area over the first k pieces -/
def areaI (ks : List (Int × Int)) : Nat → Int
  | 0 => 0
  | k + 1 => areaI ks k + (kx ks (k + 1) - kx ks k) * (ky ks k + ky ks (k + 1))
theorem fitb_at (ks : List (Int × Int)) (h : fitL ks ks.length = true) (i : Nat) (hi : i < ks.length) : (-1000000000000 ≤ kx ks i ∧ kx ks i ≤ 1000000000000) ∧ (-1000000000000 ≤ ky ks i ∧ ky ks i ≤ 1000000000000) := by
  have h2 := all_at _ i ks.length h hi
  rw [Bool.and_eq_true] at h2
  exact ⟨(inR_iff _).1 h2.1, (inR_iff _).1 h2.2⟩
theorem prod_small (a b : Int) (a1 : -2000000000000 ≤ a) (a2 : a ≤ 2000000000000) (b1 : -2000000000000 ≤ b) (b2 : b ≤ 2000000000000) : -4000000000000000000000000 ≤ a * b ∧ a * b ≤ 4000000000000000000000000 := by
  have h := mul_bound a b 2000000000000 2000000000000 a1 a2 b1 b2
  omega
theorem area_bound (ks : List (Int × Int)) (h : fitL ks ks.length = true) : ∀ k, k < ks.length → -(4000000000000000000000000 * k) ≤ areaI ks k ∧ areaI ks k ≤ 4000000000000000000000000 * k
  | 0, _ => by simp [areaI]
  | k + 1, hk => by
    have ih := area_bound ks h k (by omega)
    have f1 := fitb_at ks h k (by omega)
    have f2 := fitb_at ks h (k + 1) hk
    have hp := prod_small (kx ks (k + 1) - kx ks k) (ky ks k + ky ks (k + 1)) (by omega) (by omega) (by omega) (by omega)
    unfold areaI
    generalize (kx ks (k + 1) - kx ks k) * (ky ks k + ky ks (k + 1)) = P at *
    omega

/-- a wide number in memory of the call's own -/
structure WideAt (w : World) (b : Nat) (V : Int) : Prop where
  c0 : w.cell? ⟨b, 0, none⟩ = some (.int .u64 (hiW V))
  c1 : w.cell? ⟨b, 1, none⟩ = some (.int .u64 (loW V))
  fz : ∀ o, w.frozen? ⟨b, o, none⟩ = false
theorem WideAt.keep {w w' : World} {b : Nat} {V : Int} (h : WideAt w b V) (hb : Below w.heap.size w w') : WideAt w' b V := by
  have hlt : b < w.heap.size := World.block_lt_of_cell? _ _ h.c0
  exact ⟨(hb.cell (p := ⟨b, 0, none⟩) hlt).trans h.c0, (hb.cell (p := ⟨b, 1, none⟩) hlt).trans h.c1, fun o => (hb.frozen (p := ⟨b, o, none⟩) hlt).trans (h.fz o)⟩
theorem WideAt.set {w : World} {b : Nat} {V : Int} (h : WideAt w b V) (U : Int) : WideAt ((w.setCell ⟨b, 0, none⟩ (.int .u64 (hiW U))).setCell ⟨b, 1, none⟩ (.int .u64 (loW U))) b U := by
  refine ⟨?_, ?_, fun o => by rw [World.frozen?_setCell, World.frozen?_setCell]; exact h.fz o⟩
  · rw [World.cell?_setCell_other _ _ _ _ (by simp)]; exact World.cell?_setCell_same _ _ _ h.c0
  · exact World.cell?_setCell_same _ _ _ (by rw [World.cell?_setCell_other _ _ _ _ (by simp)]; exact h.c1)
theorem wide_fresh (w : World) (V : Int) : WideAt (w.alloc (Obj.cells #[.int .u64 (hiW V), .int .u64 (loW V)] 59)) w.heap.size V := ⟨by simp, by simp, by simp⟩
abbrev wideW (V : Int) : Value := .agg #[.int .u64 (hiW V), .int .u64 (loW V)]
theorem aof (n : Int) (w : World) (h1 : -9223372036854775808 ≤ n) (h2 : n < 9223372036854775808) :
    Calls Try.prog 38 #[.int .i64 n] w fun e w' => e = .returned (wideW n) ∧ Below w.heap.size w w' := wof_any n w h1 h2
theorem aplus (V U : Int) (w : World) :
    Calls Try.prog 39 #[wideW V, wideW U] w fun e w' => e = .returned (wideW (V + U)) ∧ Below w.heap.size w w' := wplus_any V U w
theorem atimes (V b : Int) (w : World) (hb : -9223372036854775808 ≤ b) (hb2 : b < 9223372036854775808) :
    Calls Try.prog 40 #[wideW V, .int .i64 b] w fun e w' => e = .returned (wideW (V * b)) ∧ Below w.heap.size w w' := wtimes_any V b w hb hb2
theorem adiv (V : Int) (d : Nat) (w : World) (h1 : -170141183460469231731687303715884105728 ≤ V) (h2 : V < 170141183460469231731687303715884105728) (h0 : 0 < d) (hd : d < 9223372036854775808) :
    Calls Try.prog 41 #[wideW V, .int .i64 d] w fun e w' => e = .returned (.tuple #[wideW (V / d), .int .i64 (V % d)]) ∧ Below w.heap.size w w' := wdiv_any V d w h1 h2 h0 hd
theorem aint (V : Int) (w : World) (h1 : -9223372036854775808 ≤ V) (h2 : V < 9223372036854775808) :
    Calls Try.prog 42 #[wideW V] w fun e w' => e = .returned (.tuple #[.int .i64 V, .bool true]) ∧ Below w.heap.size w w' := wint_any V w h1 h2

set_option maxRecDepth 100000 in
set_option maxHeartbeats 8000000 in
theorem area_yes (b off cap : Nat) (ks : List (Int × Int)) (w : World) (he : checkL ks = 0) (hb : b < w.heap.size) (hc : Knots w b off ks) :
    Calls Try.prog 25 #[.slice (some ⟨b, off, none⟩) ks.length cap] w fun e w' => e = .returned (.tuple #[.int .i64 (areaI ks (ks.length - 1) / 1000000000000), .int .i64 (areaI ks (ks.length - 1) % 1000000000000), .int .i64 0]) ∧ Below w.heap.size w w' := by
  obtain ⟨h0, h32, hfit, hrise⟩ := check_zero ks he
  have hk := check_some b off cap ks w h0 h32 hb hc
  rw [he] at hk
  have HK := Lib.hid hk
  have HC := Lib.hid hc
  have HF := Lib.hid fun i hi => fitb_at ks hfit i hi
  have HAB := Lib.hid fun k hk => area_bound ks hfit k hk
  have HO := Lib.hid fun w => aof 0 w (by decide) (by decide)
  clear hc hk hfit hrise he
  obtain ⟨n, hn⟩ : ∃ n, n = ks.length := ⟨_, rfl⟩
  rw [← hn] at HK HF HAB h0 h32 ⊢
  have HN := Lib.hid hn
  clear hn
  obtain ⟨N, hN⟩ : ∃ N, N = areaI ks (n - 1) / 1000000000000 := ⟨_, rfl⟩
  obtain ⟨R, hR⟩ : ∃ N, N = areaI ks (n - 1) % 1000000000000 := ⟨_, rfl⟩
  rw [← hN, ← hR]
  have hbn := HAB.out (n - 1) (by omega)
  have HD := Lib.hid fun w => (by
    have h := adiv (areaI ks (n - 1)) 1000000000000 w (by omega) (by omega) (by decide) (by decide)
    rw [show ((1000000000000 : Nat) : Int) = 1000000000000 from rfl, ← hN, ← hR] at h
    exact h : Calls Try.prog 41 #[wideW (areaI ks (n - 1)), .int .i64 1000000000000] w fun e w' => e = .returned (.tuple #[wideW N, .int .i64 R]) ∧ Below w.heap.size w w')
  have HI := Lib.hid fun w => aint N w (by omega) (by omega)
  clear hbn hN hR
  go_enter Try.func25, Try.ntmps25
  go_wp2_with fail
  refine HK.out.mono ?_
  rintro e w1 ⟨rfl, hb1⟩
  have B1 := Lib.hid hb1
  clear hb1
  go_wp2_with fail
  refine (HO.out _).mono ?_
  rintro e w2 ⟨rfl, hb2⟩
  have B2 := Lib.hid (B1.out.trans (hb2.mono B1.out.size))
  clear hb2
  go_wp2_with fail
  all_goals
    obtain ⟨S, hS⟩ : ∃ S, S = w2.heap.size := ⟨_, rfl⟩
    have hSw : w.heap.size ≤ S := by rw [hS]; exact B2.out.size
    have HW0 := Lib.hid (show WideAt (w2.alloc (Obj.cells #[.int .u64 (hiW 0), .int .u64 (loW 0)] 59)) S (areaI ks 0) by rw [hS]; exact wide_fresh w2 0)
    have B3 := Lib.hid (B2.out.alloc B2.out.size (Obj.cells #[.int .u64 (hiW 0), .int .u64 (loW 0)] 59))
    rw [← hS]
    generalize w2.alloc (Obj.cells #[Value.int .u64 (hiW 0), Value.int .u64 (loW 0)] 59) = w3 at HW0 B3 ⊢
    clear hS B2
    go_loopw [23] (fun i wr => ∃ j : Nat, j ≤ n - 1 ∧ i = .int .i64 j ∧ WideAt wr S (areaI ks j) ∧ Below w.heap.size w wr) (fun i _ => n - 1 - (intOf i).toNat)
    case atStart => exact ⟨0, by omega, rfl, HW0.out, B3.out⟩
    case round =>
      obtain ⟨j, hj, rfl, hwd, hbel⟩ := hrel
      have HB := Lib.hid hbel
      have HWd := Lib.hid hwd
      clear hbel hwd
      by_cases hlt : j < n - 1
      · have k1 := HC.out.at hb HB.out j (by rw [← HN.out]; omega)
        have k2 := HC.out.at hb HB.out (j + 1) (by rw [← HN.out]; omega)
        obtain ⟨d0, d1⟩ := k1
        obtain ⟨d2, d3⟩ := k2
        have f1 := HF.out j (by omega)
        have f2 := HF.out (j + 1) (by omega)
        have HA1 := Lib.hid (show areaI ks (j + 1) = areaI ks j + (kx ks (j + 1) - kx ks j) * (ky ks j + ky ks (j + 1)) from rfl)
        obtain ⟨X0, hX0⟩ : ∃ X, X = kx ks j := ⟨_, rfl⟩
        obtain ⟨Y0, hY0⟩ : ∃ X, X = ky ks j := ⟨_, rfl⟩
        obtain ⟨X1, hX1⟩ : ∃ X, X = kx ks (j + 1) := ⟨_, rfl⟩
        obtain ⟨Y1, hY1⟩ : ∃ X, X = ky ks (j + 1) := ⟨_, rfl⟩
        rw [← hX0] at d0 f1 HA1
        rw [← hY0] at d1 f1 HA1
        rw [← hX1] at d2 f2 HA1
        rw [← hY1] at d3 f2 HA1
        clear hX0 hY0 hX1 hY1
        obtain ⟨D, hD⟩ : ∃ D, D = X1 - X0 := ⟨_, rfl⟩
        obtain ⟨E, hE⟩ : ∃ D, D = Y0 + Y1 := ⟨_, rfl⟩
        rw [← hD, ← hE] at HA1
        have HOf := Lib.hid fun w => aof D w (by omega) (by omega)
        have HTm := Lib.hid fun w => atimes D E w (by omega) (by omega)
        have HPl := Lib.hid fun w => aplus (areaI ks j) (D * E) w
        rw [← HA1.out] at HPl
        have e1 : IntKind.i64.wrap (X1 - X0) = D := by rw [hD]; exact IntWalk.i64_in _ ⟨by omega, by omega⟩
        have e2 : IntKind.i64.wrap (Y0 + Y1) = E := by rw [hE]; exact IntWalk.i64_in _ ⟨by omega, by omega⟩
        obtain ⟨P, hP⟩ : ∃ P, P = D * E := ⟨_, rfl⟩
        rw [← hP] at HTm HPl
        clear f1 f2 hD hE hP
        have m0 : (0 : Int) ≤ (j : Int) := by omega
        have m1 : (j : Int) < (n : Int) := by omega
        have m2 : (0 : Int) ≤ (j : Int) + 1 := by omega
        have m3 : (j : Int) + 1 < (n : Int) := by omega
        have m4 : ((j : Int) + 1).toNat = j + 1 := by omega
        have m5 : IntKind.i64.wrap ((j : Int) + 1) = (j : Int) + 1 := IntWalk.i64_in _ (by omega)
        go_wp2_with fail
        go_region_held3 (fun w' => w'.cell? ⟨b, off + j * 2, none⟩ = some (.int .i64 X0) ∧ w'.cell? ⟨b, off + j * 2 + 1, none⟩ = some (.int .i64 Y0) ∧ w'.cell? ⟨b, off + (j + 1) * 2, none⟩ = some (.int .i64 X1) ∧ w'.cell? ⟨b, off + (j + 1) * 2 + 1, none⟩ = some (.int .i64 Y1)) (first | go_keep) ((fail))
        all_goals
          rename_i hHeld
          clear hHeld
          go_wp2_with fail
          first
            | (obtain ⟨B2, S2, C2, n0, n1, n2, n3⟩ := two_blocks w wr HB.out (.int .i64 X0) (.int .i64 Y0) (.int .i64 X1) (.int .i64 Y1) 50 50
               have HWx := Lib.hid (HWd.out.keep ((((Below.refl wr.heap.size wr).alloc (Nat.le_refl _) (Obj.cells #[.int .i64 X0, .int .i64 Y0] 50)).alloc (by simp) (Obj.cells #[.int .i64 X1, .int .i64 Y1] 50)).drew))
               obtain ⟨W2, hW2⟩ : ∃ W2, W2 = ((wr.alloc (.cells #[Value.int .i64 X0, Value.int .i64 Y0] 50)).alloc (.cells #[Value.int .i64 X1, Value.int .i64 Y1] 50)).drew := ⟨_, rfl⟩
               rw [← hW2]
               rw [← hW2] at B2 S2 C2 n0 n1 n2 n3 HWx
               clear hW2
               have hp8 : wr.heap.size ≠ S := by have := World.block_lt_of_cell? _ _ HWd.out.c0; simp at this; omega
               have hp9 : wr.heap.size + 1 ≠ S := by have := World.block_lt_of_cell? _ _ HWd.out.c0; simp at this; omega
               generalize wr.heap.size + 1 = p9 at n2 n3 hp9 ⊢
               generalize wr.heap.size = p8 at n0 n1 hp8 ⊢
               obtain ⟨q0, q1, q2, q3⟩ : W2.cell? ⟨p8, 0, none⟩ = some (.int .i64 X0) ∧ W2.cell? ⟨p8, 1, none⟩ = some (.int .i64 Y0) ∧ W2.cell? ⟨p9, 0, none⟩ = some (.int .i64 X1) ∧ W2.cell? ⟨p9, 1, none⟩ = some (.int .i64 Y1) := ⟨n0, n1, n2, n3⟩)
            | (obtain ⟨B2, S2, C2, n0, n1, n2, n3⟩ := two_blocks w wr HB.out (.int .i64 X1) (.int .i64 Y1) (.int .i64 X0) (.int .i64 Y0) 50 50
               have HWx := Lib.hid (HWd.out.keep ((((Below.refl wr.heap.size wr).alloc (Nat.le_refl _) (Obj.cells #[.int .i64 X1, .int .i64 Y1] 50)).alloc (by simp) (Obj.cells #[.int .i64 X0, .int .i64 Y0] 50)).drew))
               obtain ⟨W2, hW2⟩ : ∃ W2, W2 = ((wr.alloc (.cells #[Value.int .i64 X1, Value.int .i64 Y1] 50)).alloc (.cells #[Value.int .i64 X0, Value.int .i64 Y0] 50)).drew := ⟨_, rfl⟩
               rw [← hW2]
               rw [← hW2] at B2 S2 C2 n0 n1 n2 n3 HWx
               clear hW2
               have hp9 : wr.heap.size ≠ S := by have := World.block_lt_of_cell? _ _ HWd.out.c0; simp at this; omega
               have hp8 : wr.heap.size + 1 ≠ S := by have := World.block_lt_of_cell? _ _ HWd.out.c0; simp at this; omega
               generalize wr.heap.size + 1 = p8 at n2 n3 hp8 ⊢
               generalize wr.heap.size = p9 at n0 n1 hp9 ⊢
               obtain ⟨q0, q1, q2, q3⟩ : W2.cell? ⟨p8, 0, none⟩ = some (.int .i64 X0) ∧ W2.cell? ⟨p8, 1, none⟩ = some (.int .i64 Y0) ∧ W2.cell? ⟨p9, 0, none⟩ = some (.int .i64 X1) ∧ W2.cell? ⟨p9, 1, none⟩ = some (.int .i64 Y1) := ⟨n2, n3, n0, n1⟩)
          clear C2 S2 n0 n1 n2 n3 d0 d1 d2 d3 m0 m1 m2 m3 m4 m5
          have t0 := HWx.out.c0
          have t1 := HWx.out.c1
          have fz := HWx.out.fz
          have hS1 : S < W2.heap.size := World.block_lt_of_cell? _ _ t0
          have hS2 : p8 < W2.heap.size := World.block_lt_of_cell? _ _ q0
          have hS3 : p9 < W2.heap.size := World.block_lt_of_cell? _ _ q2
          have HB2 := Lib.hid B2
          have HSS := Lib.hid (show W2.drew.cell? ⟨p8, 0, none⟩ = some (.int .i64 X0) ∧ W2.drew.cell? ⟨p8, 1, none⟩ = some (.int .i64 Y0) ∧ W2.drew.cell? ⟨p9, 0, none⟩ = some (.int .i64 X1) ∧ W2.drew.cell? ⟨p9, 1, none⟩ = some (.int .i64 Y1) ∧ W2.heap.size ≤ W2.drew.heap.size ∧ Below w.heap.size w W2.drew from ⟨q0, q1, q2, q3, Nat.le_refl _, B2.trans (below_drewN _ _ 1)⟩)
          clear B2
          have hne8 : p8 ≠ S := hp8
          have hne9 : p9 ≠ S := hp9
          set_option warningAsError false in go_region_held3 (fun w' => w'.cell? ⟨p8, 0, none⟩ = some (.int .i64 X0) ∧ w'.cell? ⟨p8, 1, none⟩ = some (.int .i64 Y0) ∧ w'.cell? ⟨p9, 0, none⟩ = some (.int .i64 X1) ∧ w'.cell? ⟨p9, 1, none⟩ = some (.int .i64 Y1) ∧ W2.heap.size ≤ w'.heap.size ∧ Below w.heap.size w w')
            (first | exact HSS.out | (have hh := ‹_ ∧ _ ∧ _ ∧ _ ∧ _ ≤ _ ∧ Below _ _ _›; exact ⟨(hb2.cell (p := ⟨p8, 0, none⟩) (Nat.lt_of_lt_of_le hS2 hh.2.2.2.2.1)).trans hh.1, (hb2.cell (p := ⟨p8, 1, none⟩) (Nat.lt_of_lt_of_le hS2 hh.2.2.2.2.1)).trans hh.2.1, (hb2.cell (p := ⟨p9, 0, none⟩) (Nat.lt_of_lt_of_le hS3 hh.2.2.2.2.1)).trans hh.2.2.1, (hb2.cell (p := ⟨p9, 1, none⟩) (Nat.lt_of_lt_of_le hS3 hh.2.2.2.2.1)).trans hh.2.2.2.1, Nat.le_trans hh.2.2.2.2.1 hb2.size, hh.2.2.2.2.2.trans (hb2.mono hh.2.2.2.2.2.size)⟩) | (have hh := ‹_ ∧ _ ∧ _ ∧ _ ∧ _ ≤ _ ∧ Below _ _ _›; exact ⟨((World.cell?_setCell_other _ _ _ _ (by first | exact fun h => hne8 (congrArg Addr.block h) | exact fun h => hne8 (congrArg Addr.block h).symm)).trans (World.cell?_setCell_other _ _ _ _ (by first | exact fun h => hne8 (congrArg Addr.block h) | exact fun h => hne8 (congrArg Addr.block h).symm))).trans hh.1, ((World.cell?_setCell_other _ _ _ _ (by first | exact fun h => hne8 (congrArg Addr.block h) | exact fun h => hne8 (congrArg Addr.block h).symm)).trans (World.cell?_setCell_other _ _ _ _ (by first | exact fun h => hne8 (congrArg Addr.block h) | exact fun h => hne8 (congrArg Addr.block h).symm))).trans hh.2.1, ((World.cell?_setCell_other _ _ _ _ (by first | exact fun h => hne9 (congrArg Addr.block h) | exact fun h => hne9 (congrArg Addr.block h).symm)).trans (World.cell?_setCell_other _ _ _ _ (by first | exact fun h => hne9 (congrArg Addr.block h) | exact fun h => hne9 (congrArg Addr.block h).symm))).trans hh.2.2.1, ((World.cell?_setCell_other _ _ _ _ (by first | exact fun h => hne9 (congrArg Addr.block h) | exact fun h => hne9 (congrArg Addr.block h).symm)).trans (World.cell?_setCell_other _ _ _ _ (by first | exact fun h => hne9 (congrArg Addr.block h) | exact fun h => hne9 (congrArg Addr.block h).symm))).trans hh.2.2.2.1, (by simpa using hh.2.2.2.2.1), (hh.2.2.2.2.2.setCell hSw _).setCell hSw _⟩) | go_keep)
            (first | (go_at_call 38; have hh := ‹_ ∧ _ ∧ _ ∧ _ ∧ _ ≤ _ ∧ Below _ _ _›; refine (HOf.out _).mono ?_; rintro e w2 ⟨rfl, hb2⟩; have t0 := (hb2.cell (p := ⟨S, 0, none⟩) (Nat.lt_of_lt_of_le hS1 hh.2.2.2.2.1)).trans t0; have t1 := (hb2.cell (p := ⟨S, 1, none⟩) (Nat.lt_of_lt_of_le hS1 hh.2.2.2.2.1)).trans t1; have fz := fun o => (hb2.frozen (p := ⟨S, o, none⟩) (Nat.lt_of_lt_of_le hS1 hh.2.2.2.2.1)).trans (fz o)) | (go_at_call 40; have hh := ‹_ ∧ _ ∧ _ ∧ _ ∧ _ ≤ _ ∧ Below _ _ _›; refine (HTm.out _).mono ?_; rintro e w2 ⟨rfl, hb2⟩; have t0 := (hb2.cell (p := ⟨S, 0, none⟩) (Nat.lt_of_lt_of_le hS1 hh.2.2.2.2.1)).trans t0; have t1 := (hb2.cell (p := ⟨S, 1, none⟩) (Nat.lt_of_lt_of_le hS1 hh.2.2.2.2.1)).trans t1; have fz := fun o => (hb2.frozen (p := ⟨S, o, none⟩) (Nat.lt_of_lt_of_le hS1 hh.2.2.2.2.1)).trans (fz o)) | (go_at_call 39; have hh := ‹_ ∧ _ ∧ _ ∧ _ ∧ _ ≤ _ ∧ Below _ _ _›; refine (HPl.out _).mono ?_; rintro e w2 ⟨rfl, hb2⟩; have t0 := (hb2.cell (p := ⟨S, 0, none⟩) (Nat.lt_of_lt_of_le hS1 hh.2.2.2.2.1)).trans t0; have t1 := (hb2.cell (p := ⟨S, 1, none⟩) (Nat.lt_of_lt_of_le hS1 hh.2.2.2.2.1)).trans t1; have fz := fun o => (hb2.frozen (p := ⟨S, o, none⟩) (Nat.lt_of_lt_of_le hS1 hh.2.2.2.2.1)).trans (fz o)))
          all_goals
            rename_i hHeld
            have HFB := Lib.hid hHeld.2.2.2.2.2
            have HFW := Lib.hid (WideAt.set ⟨t0, t1, fz⟩ (areaI ks (j + 1)))
            clear hHeld t0 t1 fz
            go_wp2_with fail
            go_roundw
            case rel => exact ⟨j + 1, by omega, by go_num, HFW.out, HFB.out⟩
            case measure => simp [intOf]; omega
      · obtain rfl : j = n - 1 := by omega
        have t0 := HWd.out.c0
        have t1 := HWd.out.c1
        go_wp2_with fail
        refine (HD.out _).mono ?_
        rintro e w4 ⟨rfl, hb4⟩
        have B4 := Lib.hid (HB.out.trans (hb4.mono HB.out.size))
        clear hb4 t0 t1
        go_wp2_with fail
        refine (HI.out _).mono ?_
        rintro e w5 ⟨rfl, hb5⟩
        have B5 := Lib.hid ((B4.out.alloc B4.out.size _).trans (hb5.mono (B4.out.alloc B4.out.size _).size))
        clear hb5
        go_wp2_with fail
        go_ret3
        exact ⟨rfl, B5.out⟩

theorem area_any (a : Option Addr) (n cap : Nat) (ks : List (Int × Int)) (w : World) (h : IsKnots w a n ks) :
    Calls Try.prog 25 #[.slice a n cap] w fun e w' => e = .returned (.tuple #[.int .i64 (if checkL ks = 0 then areaI ks (ks.length - 1) / 1000000000000 else 0), .int .i64 (if checkL ks = 0 then areaI ks (ks.length - 1) % 1000000000000 else 0), .int .i64 (checkL ks)]) ∧ Below w.heap.size w w' := by
  have hk := check_any a n cap ks w h
  by_cases he : checkL ks = 0
  · obtain ⟨h0, h32, _, hr⟩ := check_zero ks he
    obtain ⟨b, off, rfl, hb, rfl, hc⟩ := h.some h0
    rw [if_pos he, if_pos he, he]
    exact area_yes b off cap ks w he hb hc
  · rw [if_neg he, if_neg he]
    obtain ⟨E, hE⟩ : ∃ E, E = checkL ks := ⟨_, rfl⟩
    rw [← hE] at hk he ⊢
    have HK := Lib.hid hk
    have t0 : (E != 0) = true := by rw [bne_iff_ne]; exact he
    clear hk he h hE
    go_enter Try.func25, Try.ntmps25
    go_wp2_with fail
    refine HK.out.mono ?_
    rintro e w1 ⟨rfl, hb1⟩
    have B1 := Lib.hid hb1
    clear hb1
    go_wp2_with fail
    go_ret3
    exact ⟨rfl, B1.out⟩
end Go.Proofs.Ythghcppdfeeloaa
