/- The contract of curve.Inverse. -/
import Derived.Test.YthghcppdfeeloaaMo
import Derived.Deep.RegionHeld3
namespace Go.Proofs.Ythghcppdfeeloaa
open Go.RowKit

set_option maxHeartbeats 400000 in
theorem reach_any (bc bf by_ b off cap : Nat) (ks : List (Int × Int)) (X0 Y0 y : Int) (m : Nat) (w : World) (he : checkL ks = 0) (hb : b < w.heap.size) (hm : (m : Int) ≤ 2000000000000) (hX0 : X0 = kx ks 0) (hX1 : -1000000000000 ≤ X0 ∧ X0 ≤ 1000000000000)
    (hc : w.cell? ⟨bc, 0, none⟩ = some (.slice (some ⟨b, off, none⟩) ks.length cap)) (hf : w.cell? ⟨bf, 0, none⟩ = some (.int .i64 X0)) (_hf2 : w.cell? ⟨bf, 1, none⟩ = some (.int .i64 Y0)) (hy : w.cell? ⟨by_, 0, none⟩ = some (.int .i64 y)) (hk : Knots w b off ks) :
    Calls Try.prog 34 (#[.int .i64 m] ++ #[.pointer (some ⟨bc, 0, none⟩), .pointer (some ⟨bf, 0, none⟩), .pointer (some ⟨by_, 0, none⟩)]) w fun e w' => e = .returned (.bool (decide (y ≤ valI ks (kx ks 0 + m)))) ∧ Below w.heap.size w w' := by
  obtain ⟨h0, h32, _, hr⟩ := check_zero ks he
  rw [← hX0]
  have HV := Lib.hid fun w' (hw : Below w.heap.size w w') => value_any b off cap ks (X0 + m) w' h0 h32 (Nat.lt_of_lt_of_le hb hw.size) (hk.at hb hw) hr
  obtain ⟨z, hz⟩ : ∃ z, z = valI ks (X0 + m) := ⟨_, rfl⟩
  rw [← hz] at HV ⊢
  obtain ⟨n, hn⟩ : ∃ n, n = ks.length := ⟨_, rfl⟩
  rw [← hn] at HV hc
  obtain ⟨x1, x2⟩ := hX1
  have e1 : wrap64 (X0 + m) = X0 + m := by unfold wrap64; omega
  have HK := Lib.hid hk
  clear hk hz hn hr h0 h32 hX0 he
  go_enter Try.func34, Try.ntmps34
  go_wp2_with fail
  have l1 := World.block_lt_of_cell? w _ hc
  have l2 := World.block_lt_of_cell? w _ hf
  have l3 := World.block_lt_of_cell? w _ hy
  have f1 : IntKind.i64.wrap (X0 + (m : Int)) = X0 + (m : Int) := IntWalk.i64_in _ (by omega)
  clear e1
  go_region_held3 (fun w' => w'.cell? ⟨bc, 0, none⟩ = some (.slice (some ⟨b, off, none⟩) n cap) ∧ w'.cell? ⟨bf, 0, none⟩ = some (.int .i64 X0) ∧ w'.cell? ⟨by_, 0, none⟩ = some (.int .i64 y))
    (first | go_keep | exact ⟨(hb2.cell (p := ⟨bc, 0, none⟩) l1).trans hc, (hb2.cell (p := ⟨bf, 0, none⟩) l2).trans hf, (hb2.cell (p := ⟨by_, 0, none⟩) l3).trans hy⟩)
    (first | (go_at_call 30; refine (HV.out _ (Below.refl _ _).drew).mono ?_; rintro e w2 ⟨rfl, hb2⟩))
  all_goals
    rename_i hHeld
    clear hHeld
    have B2 := Lib.hid ((Below.refl w.heap.size w).drew.trans hb2)
    clear hb2 f1
    go_wp2_with fail
    go_ret
    exact ⟨rfl, B2.out⟩

/-- what Inverse answers -/
def invI (ks : List (Int × Int)) (y : Int) : Int × Int :=
  if checkL ks ≠ 0 then (0, checkL ks) else if dirI ks ≠ 0 ∧ dirI ks ≠ 1 then (0, 8) else if ky ks (ks.length - 1) < y then (0, 9) else (kx ks 0 + invR ks y, 0)

theorem cell_two0 (W : World) (u v : Value) (t : TypeId) : (W.alloc (.cells #[u, v] t)).cell? ⟨W.heap.size, 0, none⟩ = some u := by
  rw [World.cell?_alloc_at _ _ _ _ (by simp)]; rfl
theorem cell_two1 (W : World) (u v : Value) (t : TypeId) : (W.alloc (.cells #[u, v] t)).cell? ⟨W.heap.size, 1, none⟩ = some v := by
  rw [World.cell?_alloc_at _ _ _ _ (by simp)]; rfl

/-- two new blocks of two cells -/
theorem two_blocks (w w1 : World) (B : Below w.heap.size w w1) (u v u' v' : Value) (t t' : TypeId) :
    Below w.heap.size w ((w1.alloc (.cells #[u, v] t)).alloc (.cells #[u', v'] t')).drew ∧ ((w1.alloc (.cells #[u, v] t)).alloc (.cells #[u', v'] t')).drew.heap.size = w1.heap.size + 2 ∧
    (∀ (p : Addr) (z : Value), w1.cell? p = some z → ((w1.alloc (.cells #[u, v] t)).alloc (.cells #[u', v'] t')).drew.cell? p = some z) ∧
    ((w1.alloc (.cells #[u, v] t)).alloc (.cells #[u', v'] t')).drew.cell? ⟨w1.heap.size, 0, none⟩ = some u ∧ ((w1.alloc (.cells #[u, v] t)).alloc (.cells #[u', v'] t')).drew.cell? ⟨w1.heap.size, 1, none⟩ = some v ∧
    ((w1.alloc (.cells #[u, v] t)).alloc (.cells #[u', v'] t')).drew.cell? ⟨w1.heap.size + 1, 0, none⟩ = some u' ∧ ((w1.alloc (.cells #[u, v] t)).alloc (.cells #[u', v'] t')).drew.cell? ⟨w1.heap.size + 1, 1, none⟩ = some v' := by
  have e := World.size_alloc w1 (.cells #[u, v] t)
  refine ⟨((B.alloc B.size _).alloc (by rw [World.size_alloc]; exact Nat.le_succ_of_le B.size) _).drew, by rw [World.size_drew, World.size_alloc, World.size_alloc], fun p z h => cell_alloc_sl _ (cell_alloc_sl _ h), cell_alloc_sl _ (cell_two0 _ _ _ _), cell_alloc_sl _ (cell_two1 _ _ _ _), ?_, ?_⟩
  · have h := cell_two0 (w1.alloc (.cells #[u, v] t)) u' v' t'
    rw [e] at h; exact h
  · have h := cell_two1 (w1.alloc (.cells #[u, v] t)) u' v' t'
    rw [e] at h; exact h

/-- the search of Inverse -/
theorem inverse_search (b off cap n N r : Nat) (ks : List (Int × Int)) (X0 Y0 y : Int) (W : World) (bc bf by_ : Nat) (he : checkL ks = 0) (hn : n = ks.length) (hX0 : X0 = kx ks 0) (hX1 : -1000000000000 ≤ X0 ∧ X0 ≤ 1000000000000) (hN : (N : Int) ≤ 2000000000000) (hb : b < W.heap.size)
    (h1 : r ≤ N) (h2 : ∀ m : Nat, m < r → decide (y ≤ valI ks (X0 + m)) = false) (h3 : ∀ m : Nat, r ≤ m → m < N → decide (y ≤ valI ks (X0 + m)) = true)
    (cc : W.cell? ⟨bc, 0, none⟩ = some (.slice (some ⟨b, off, none⟩) n cap)) (cf : W.cell? ⟨bf, 0, none⟩ = some (.int .i64 X0)) (cf2 : W.cell? ⟨bf, 1, none⟩ = some (.int .i64 Y0)) (cy : W.cell? ⟨by_, 0, none⟩ = some (.int .i64 y)) (ck : Knots W b off ks) :
    Calls Try.prog 33 #[.int .i64 N, .func (.func 34) #[] #[.pointer (some ⟨bc, 0, none⟩), .pointer (some ⟨bf, 0, none⟩), .pointer (some ⟨by_, 0, none⟩)]] W fun e w' => e = .returned (.int .i64 r) ∧ Below W.heap.size W w' := by
  subst hn
  have l1 := World.block_lt_of_cell? W _ cc
  have l2 := World.block_lt_of_cell? W _ cf
  have l3 := World.block_lt_of_cell? W _ cy
  refine search_any 34 _ N (fun m => decide (y ≤ valI ks (X0 + (m : Nat)))) W r (enters_of Try.func34 (by kernel_rfl) rfl) (by omega) (fun w' i hi hbel => ?_) h1 h2 h3
  have h := reach_any bc bf by_ b off cap ks X0 Y0 y i w' he (Nat.lt_of_lt_of_le hb hbel.size) (by omega) hX0 hX1 ((hbel.cell (p := ⟨bc, 0, none⟩) l1).trans cc) ((hbel.cell (p := ⟨bf, 0, none⟩) l2).trans cf) ((hbel.cell (p := ⟨bf, 1, none⟩) l2).trans cf2) ((hbel.cell (p := ⟨by_, 0, none⟩) l3).trans cy) (ck.at hb hbel)
  rw [← hX0] at h
  exact h

set_option maxHeartbeats 4000000 in
theorem inverse_some (b off cap : Nat) (ks : List (Int × Int)) (y : Int) (w : World) (hb : b < w.heap.size) (hc : Knots w b off ks) (he : checkL ks = 0) (hd : dirI ks = 0 ∨ dirI ks = 1) :
    Calls Try.prog 18 #[.slice (some ⟨b, off, none⟩) ks.length cap, .int .i64 y] w fun e w' => e = .returned (.tuple #[.int .i64 (if ky ks (ks.length - 1) < y then 0 else kx ks 0 + invR ks y), .int .i64 (if ky ks (ks.length - 1) < y then 9 else 0)]) ∧ Below w.heap.size w w' := by
  obtain ⟨h0, h32, hf, hr⟩ := check_zero ks he
  have hu := dir_up ks hd
  have HD := Lib.hid fun w' (hw : Below w.heap.size w w') => (by have h := direction_some b off cap ks w' (Nat.lt_of_lt_of_le hb hw.size) (hc.at hb hw) he; exact h)
  have hR := invR_facts ks y he hu
  obtain ⟨r, hr'⟩ : ∃ r, r = invR ks y := ⟨_, rfl⟩
  rw [← hr'] at hR ⊢
  clear hr'
  have HR := Lib.hid hR
  clear hR
  obtain ⟨d, hde⟩ : ∃ d, d = dirI ks := ⟨_, rfl⟩
  rw [← hde] at hd HD
  clear hde
  have HC := Lib.hid hc
  have HE := Lib.hid he
  obtain ⟨g1, g2⟩ := fit_at ks hf 0 h0
  obtain ⟨g3, g4⟩ := fit_at ks hf (ks.length - 1) (by omega)
  obtain ⟨n, hn⟩ : ∃ n, n = ks.length := ⟨_, rfl⟩
  obtain ⟨X0, hX0⟩ : ∃ t, t = kx ks 0 := ⟨_, rfl⟩
  obtain ⟨Y0, hY0⟩ : ∃ t, t = ky ks 0 := ⟨_, rfl⟩
  obtain ⟨X1, hX1⟩ : ∃ t, t = kx ks (n - 1) := ⟨_, rfl⟩
  obtain ⟨Y1, hY1⟩ : ∃ t, t = ky ks (n - 1) := ⟨_, rfl⟩
  have hle := rise_mono ks hr (ks.length - 1) 0 (by omega) (by omega)
  rw [← hn] at HD HR g3 g4 h0 h32 hle ⊢
  rw [← hX0, ← hX1] at HR hle
  rw [← hY1, ← hX0]
  obtain ⟨z1, hz1⟩ : ∃ z, z = if Y1 < y then 0 else X0 + (r : Int) := ⟨_, rfl⟩
  obtain ⟨z2, hz2⟩ : ∃ z : Int, z = if Y1 < y then 9 else 0 := ⟨_, rfl⟩
  rw [← hz1, ← hz2]
  have HZ1 := Lib.hid hz1
  have HZ2 := Lib.hid hz2
  clear hz1 hz2
  have b0 := clampI_range (kx ks 0)
  have b1 := clampI_range (kx ks (n - 1))
  rw [g1, ← hX0] at b0
  rw [g3, ← hX1] at b1
  have HX0 := Lib.hid hX0
  have HY0 := Lib.hid hY0
  have HX1 := Lib.hid hX1
  have HY1 := Lib.hid hY1
  have HN := Lib.hid hn
  clear hc he hu hr hf hX0 hY0 hX1 hY1 hn g1 g2 g3 g4
  go_enter Try.func18, Try.ntmps18
  go_wp2_with fail
  have B0 : Below w.heap.size w ((w.alloc (.cells #[.slice (some ⟨b, off, none⟩) n cap] 22)).alloc (.cells #[.int .i64 y] 2)) := ((Below.refl _ w).alloc (Nat.le_refl _) _).alloc (by rw [World.size_alloc]; omega) _
  refine (HD.out _ B0).mono ?_
  rintro e w1 ⟨rfl, hb1⟩
  have B1 := Lib.hid (B0.trans (hb1.mono B0.size))
  have d1 : w1.cell? ⟨w.heap.size, 0, none⟩ = some (.slice (some ⟨b, off, none⟩) n cap) := (hb1.cell (p := ⟨w.heap.size, 0, none⟩) (by rw [World.size_alloc, World.size_alloc]; show w.heap.size < _; omega)).trans (cell_alloc_sl _ (cell_new_sl w _ _))
  have d2 : w1.cell? ⟨w.heap.size + 1, 0, none⟩ = some (.int .i64 y) := (hb1.cell (p := ⟨w.heap.size + 1, 0, none⟩) (by rw [World.size_alloc, World.size_alloc]; show w.heap.size + 1 < _; omega)).trans (by have := cell_new_sl (w.alloc (.cells #[.slice (some ⟨b, off, none⟩) n cap] 22)) (Value.int .i64 y) 2; rwa [World.size_alloc] at this)
  have kc := HC.out.at hb B1.out
  obtain ⟨k1, k2⟩ := kc 0 (by rw [← HN.out]; exact h0)
  obtain ⟨k3, k4⟩ := kc (n - 1) (by rw [← HN.out]; omega)
  rw [← HX0.out] at k1
  rw [← HY0.out] at k2
  rw [← HX1.out] at k3
  rw [← HY1.out] at k4
  rw [Nat.zero_mul, Nat.add_zero] at k1 k2
  have sz := hb1.size
  rw [World.size_alloc, World.size_alloc] at sz
  have s1 : w.heap.size < w1.heap.size := by omega
  have s2 : w.heap.size + 1 < w1.heap.size := by omega
  have s3 : b < w1.heap.size := by omega
  have p1 : (0 : Int) < (n : Int) := by omega
  obtain ⟨q, hq⟩ : ∃ q, q = n - 1 := ⟨_, rfl⟩
  rw [← hq] at k3 k4
  have p5 : (1 : Int) ≤ (n : Int) := by omega
  have p3 : (0 : Int) ≤ (n : Int) - 1 := by omega
  have p4 : (n : Int) - 1 < (n : Int) := by omega
  have f2 : IntKind.i64.wrap ((n : Int) - 1) = (n : Int) - 1 := IntWalk.i64_in _ (by omega)
  have f3 : ((n : Int) - 1).toNat = q := by omega
  have hq2 : q < n := by omega
  clear hq
  clear hb1 B0 sz kc
  have hdd : (d = 0 ∨ d = 1) := hd
  clear hd HD
  rcases hdd with rfl | rfl
  all_goals
    go_wp2_with fail
    go_region_held3 (fun w' => w'.cell? ⟨w.heap.size, 0, none⟩ = some (.slice (some ⟨b, off, none⟩) n cap) ∧ w'.cell? ⟨b, off, none⟩ = some (.int .i64 X0) ∧ w'.cell? ⟨b, off + 1, none⟩ = some (.int .i64 Y0) ∧ w'.cell? ⟨b, off + q * 2, none⟩ = some (.int .i64 X1) ∧ w'.cell? ⟨b, off + q * 2 + 1, none⟩ = some (.int .i64 Y1))
      (first | go_keep) ((fail))
    all_goals
      rename_i hHeld
      clear hHeld
      first
        | (obtain ⟨B2, S2, C2, n0, n1, n2, n3⟩ := two_blocks w w1 B1.out (.int .i64 X0) (.int .i64 Y0) (.int .i64 X1) (.int .i64 Y1) 50 50
           generalize ((w1.alloc (.cells #[Value.int .i64 X0, Value.int .i64 Y0] 50)).alloc (.cells #[Value.int .i64 X1, Value.int .i64 Y1] 50)).drew = W2 at B2 S2 C2 n0 n1 n2 n3 ⊢
           have d1' := C2 _ _ d1
           have d2' := C2 _ _ d2
           have hbW : b < W2.heap.size := by omega
           have HB2 := Lib.hid B2
           clear C2 B2 S2 d1 d2 k1 k2 k3 k4
           by_cases hlast : Y1 < y
           · have hz1 := HZ1.out
             have hz2 := HZ2.out
             rw [if_pos hlast] at hz1 hz2
             subst hz1 hz2
             have t0 : decide (Y1 < y) = true := decide_eq_true hlast
             clear HZ1 HZ2
             go_wp2_with fail
             go_ret2
             exact ⟨rfl, HB2.out⟩
           · have hz1 := HZ1.out
             have hz2 := HZ2.out
             rw [if_neg hlast] at hz1 hz2
             subst hz2
             have HZ := Lib.hid hz1
             clear hz1 HZ1 HZ2
             have t0 : decide (Y1 < y) = false := decide_eq_false hlast
             obtain ⟨N, hNe⟩ : ∃ N, N = (X1 - X0).toNat := ⟨_, rfl⟩
             rw [← hNe] at HR
             have f4 : X1 - X0 = (N : Int) := by omega
             have f5 : IntKind.i64.wrap (X1 - X0) = (N : Int) := by rw [IntWalk.i64_in _ (by omega)]; exact f4
             have f6 : wrap64 (X1 - X0) = (N : Int) := by unfold wrap64; omega
             have hN2 : (N : Int) ≤ 2000000000000 := by omega
             have hrN := HR.out.1
             have f7 : wrap64 (X0 + (r : Int)) = X0 + (r : Int) := by unfold wrap64; omega
             clear hNe
             go_wp2_with fail
             refine (inverse_search b off cap n N r ks X0 Y0 y W2 _ _ _ HE.out HN.out HX0.out b0 hN2 hbW HR.out.1 HR.out.2.1 HR.out.2.2 d1' n0 n1 d2' (HC.out.at hb HB2.out)).mono ?_
             rintro e w2 ⟨rfl, hb2⟩
             have n4 := (hb2.cell (World.block_lt_of_cell? W2 _ n0)).trans n0
             have B3 := Lib.hid (HB2.out.trans (hb2.mono HB2.out.size))
             clear hb2 n0 n1 n2 n3 d1' d2' f4 f5 f6
             go_wp2_with fail
             go_ret2
             exact ⟨by rw [HZ.out]; rfl, B3.out⟩)
        | (obtain ⟨B2, S2, C2, n0, n1, n2, n3⟩ := two_blocks w w1 B1.out (.int .i64 X1) (.int .i64 Y1) (.int .i64 X0) (.int .i64 Y0) 50 50
           generalize ((w1.alloc (.cells #[Value.int .i64 X1, Value.int .i64 Y1] 50)).alloc (.cells #[Value.int .i64 X0, Value.int .i64 Y0] 50)).drew = W2 at B2 S2 C2 n0 n1 n2 n3 ⊢
           have d1' := C2 _ _ d1
           have d2' := C2 _ _ d2
           have hbW : b < W2.heap.size := by omega
           have HB2 := Lib.hid B2
           clear C2 B2 S2 d1 d2 k1 k2 k3 k4
           by_cases hlast : Y1 < y
           · have hz1 := HZ1.out
             have hz2 := HZ2.out
             rw [if_pos hlast] at hz1 hz2
             subst hz1 hz2
             have t0 : decide (Y1 < y) = true := decide_eq_true hlast
             clear HZ1 HZ2
             go_wp2_with fail
             go_ret2
             exact ⟨rfl, HB2.out⟩
           · have hz1 := HZ1.out
             have hz2 := HZ2.out
             rw [if_neg hlast] at hz1 hz2
             subst hz2
             have HZ := Lib.hid hz1
             clear hz1 HZ1 HZ2
             have t0 : decide (Y1 < y) = false := decide_eq_false hlast
             obtain ⟨N, hNe⟩ : ∃ N, N = (X1 - X0).toNat := ⟨_, rfl⟩
             rw [← hNe] at HR
             have f4 : X1 - X0 = (N : Int) := by omega
             have f5 : IntKind.i64.wrap (X1 - X0) = (N : Int) := by rw [IntWalk.i64_in _ (by omega)]; exact f4
             have f6 : wrap64 (X1 - X0) = (N : Int) := by unfold wrap64; omega
             have hN2 : (N : Int) ≤ 2000000000000 := by omega
             have hrN := HR.out.1
             have f7 : wrap64 (X0 + (r : Int)) = X0 + (r : Int) := by unfold wrap64; omega
             clear hNe
             go_wp2_with fail
             refine (inverse_search b off cap n N r ks X0 Y0 y W2 _ _ _ HE.out HN.out HX0.out b0 hN2 hbW HR.out.1 HR.out.2.1 HR.out.2.2 d1' n2 n3 d2' (HC.out.at hb HB2.out)).mono ?_
             rintro e w2 ⟨rfl, hb2⟩
             have n4 := (hb2.cell (World.block_lt_of_cell? W2 _ n2)).trans n2
             have B3 := Lib.hid (HB2.out.trans (hb2.mono HB2.out.size))
             clear hb2 n0 n1 n2 n3 d1' d2' f4 f5 f6
             go_wp2_with fail
             go_ret2
             exact ⟨by rw [HZ.out]; rfl, B3.out⟩)

theorem IsKnots.at {w : World} {a : Option Addr} {n : Nat} {ks : List (Int × Int)} (h : IsKnots w a n ks) {w' : World} (hw : Below w.heap.size w w') : IsKnots w' a n ks := by
  rcases h with h | ⟨b, off, h1, h2, h3, h4, h5⟩
  · exact .inl h
  · exact .inr ⟨b, off, h1, Nat.lt_of_lt_of_le h2 hw.size, h3, h4, h5.at h2 hw⟩

set_option maxHeartbeats 1000000 in
theorem inverse_else (a : Option Addr) (n cap : Nat) (ks : List (Int × Int)) (y : Int) (w : World) (h : IsKnots w a n ks) (hd : checkL ks ≠ 0 ∨ (dirI ks ≠ 0 ∧ dirI ks ≠ 1)) :
    Calls Try.prog 18 #[.slice a n cap, .int .i64 y] w fun e w' => e = .returned (.tuple #[.int .i64 0, .int .i64 (if checkL ks ≠ 0 then checkL ks else 8)]) ∧ Below w.heap.size w w' := by
  have hk := fun w' (hw : Below w.heap.size w w') => direction_any a n cap ks w' (h.at hw)
  by_cases he : checkL ks ≠ 0
  · rw [if_pos he]
    have e0 : (if checkL ks = 0 then dirI ks else 0) = 0 := if_neg he
    rw [e0] at hk
    obtain ⟨E, hE⟩ : ∃ E, E = checkL ks := ⟨_, rfl⟩
    rw [← hE] at hk he ⊢
    have HK := Lib.hid hk
    have t0 : (E != 0) = true := by rw [bne_iff_ne]; exact he
    clear hk he h hE hd e0
    go_enter Try.func18, Try.ntmps18
    go_wp2_with fail
    have B0 : Below w.heap.size w ((w.alloc (.cells #[.slice a n cap] 22)).alloc (.cells #[.int .i64 y] 2)) := ((Below.refl _ w).alloc (Nat.le_refl _) _).alloc (by rw [World.size_alloc]; omega) _
    refine (HK.out _ B0).mono ?_
    rintro e w1 ⟨rfl, hb1⟩
    have B1 := Lib.hid (B0.trans (hb1.mono B0.size))
    clear hb1 B0
    go_wp2_with fail
    go_ret2
    exact ⟨rfl, B1.out⟩
  · have he0 : checkL ks = 0 := by omega
    rw [if_neg he]
    rw [if_pos he0, he0] at hk
    obtain ⟨d1, d2⟩ : dirI ks ≠ 0 ∧ dirI ks ≠ 1 := by rcases hd with h1 | h1; exact absurd he0 h1; exact h1
    obtain ⟨d, hde⟩ : ∃ d, d = dirI ks := ⟨_, rfl⟩
    rw [← hde] at hk d1 d2
    have HK := Lib.hid hk
    have t0 : (d != 0) = true := by rw [bne_iff_ne]; exact d1
    have t1 : (d != 1) = true := by rw [bne_iff_ne]; exact d2
    clear hk he h hde hd d1 d2 he0
    go_enter Try.func18, Try.ntmps18
    go_wp2_with fail
    have B0 : Below w.heap.size w ((w.alloc (.cells #[.slice a n cap] 22)).alloc (.cells #[.int .i64 y] 2)) := ((Below.refl _ w).alloc (Nat.le_refl _) _).alloc (by rw [World.size_alloc]; omega) _
    refine (HK.out _ B0).mono ?_
    rintro e w1 ⟨rfl, hb1⟩
    have B1 := Lib.hid (B0.trans (hb1.mono B0.size))
    clear hb1 B0
    go_wp2_with fail
    go_ret2
    exact ⟨rfl, B1.out⟩

theorem inverse_any (a : Option Addr) (n cap : Nat) (ks : List (Int × Int)) (y : Int) (w : World) (h : IsKnots w a n ks) :
    Calls Try.prog 18 #[.slice a n cap, .int .i64 y] w fun e w' => e = .returned (.tuple #[.int .i64 (invI ks y).1, .int .i64 (invI ks y).2]) ∧ Below w.heap.size w w' := by
  by_cases he : checkL ks ≠ 0
  · have e : invI ks y = (0, checkL ks) := by unfold invI; rw [if_pos he]
    have h1 := inverse_else a n cap ks y w h (.inl he)
    rw [if_pos he] at h1
    rw [e]; exact h1
  · have he0 : checkL ks = 0 := by omega
    by_cases hd : dirI ks ≠ 0 ∧ dirI ks ≠ 1
    · have e : invI ks y = (0, 8) := by unfold invI; rw [if_neg he, if_pos hd]
      have h1 := inverse_else a n cap ks y w h (.inr hd)
      rw [if_neg he] at h1
      rw [e]; exact h1
    · obtain ⟨b, off, rfl, hb, rfl, hc⟩ := h.some (check_zero ks he0).1
      have h1 := inverse_some b off cap ks y w hb hc he0 (by omega)
      have e : invI ks y = (if ky ks (ks.length - 1) < y then 0 else kx ks 0 + (invR ks y : Int), if ky ks (ks.length - 1) < y then 9 else 0) := by
        unfold invI; rw [if_neg he, if_neg hd]; split <;> rfl
      rw [e]; exact h1
end Go.Proofs.Ythghcppdfeeloaa
