/- The law PriorityHighest. -/
import Derived.Test.YtlmilalibgehpaaU
import Derived.Test.YtlmilalibgehpaaT
import Derived.Test.YtlmilalibgehpaaJ
import Derived.Test.YtlmilalibgehpaaPn
namespace Go.Proofs.Ytlmilalibgehpaa
open Go.RowKit

theorem slotV_in (S : Nat → WrD) (l : Int) (p : Nat) (hp : l = (p : Int) + 1) (h : p < 16) : slotV S l = .tuple #[.agg #[.int .i64 (S p).k, .int .i64 (S p).n], .int .i64 0] := by
  have hlv : lvB l = true := by unfold lvB; simp; omega
  unfold slotV
  rw [if_pos hlv, show (l - 1).toNat = p by omega]
theorem slot_at (a : Option Addr) (cap N : Nat) (xs : List WrD) (hN : N = xs.length) (l : Int) (p : Nat) (hp : l = (p : Int) + 1) (h : p < 16) (w : World) (h6 : N ≤ 60) (hin : InS w a xs.length 4 (flat wrL xs)) : Calls Try.prog 23 #[.slice a N cap, .int .i64 l] w fun e w' => e = .returned (.tuple #[.agg #[.int .i64 (bestS xs p).k, .int .i64 (bestS xs p).n], .int .i64 0]) ∧ Below w.heap.size w w' := by
  subst hN
  have h1 := slot_any a cap xs l w (by omega) hin
  rw [slotV_in (bestS xs) l p hp h] at h1
  exact h1

set_option maxHeartbeats 4000000 in
set_option maxRecDepth 100000 in
theorem highest_end (a : Option Addr) (cap : Nat) (xs : List WrD) (lv g : Nat) (c m : Int) (h0 : lv ≤ g) (hg16 : g ≤ 16) (hz0 : ∀ j, lv ≤ j → j < g → (bestS xs j).k = 0) (hg : g = 16) (hu : undV (bestS xs) lv c m = .tuple #[.int .i64 17, .agg #[.int .i64 c, .int .i64 m]]) (w : World) (hin : InS w a xs.length 4 (flat wrL xs)) : Calls Try.prog 7 #[.slice a xs.length cap, .int .i64 lv, .agg #[.int .i64 c, .int .i64 m]] w fun e w' => e = .returned (.bool true) ∧ Below w.heap.size w w' := by
  obtain ⟨N, hN⟩ : ∃ N, N = xs.length := ⟨_, rfl⟩
  obtain ⟨Z, hZ⟩ : ∃ Z, decide (N ≤ 60) = Z := ⟨_, rfl⟩
  have HF := Lib.hid (few_ins a N cap Z hZ)
  have HZ := Lib.hid hZ
  obtain ⟨l, hL⟩ : ∃ l : Int, l = (lv : Int) := ⟨_, rfl⟩
  rw [← hL]
  have hll : l = 0 ∨ lvB l = true := by
    by_cases h : lv = 0
    · exact .inl (by omega)
    · exact .inr (by unfold lvB; simp; omega)
  have c1 := fun w1 (hb : Below w.heap.size w w1) (h6 : N ≤ 60) => punder_any a cap xs l c m w1 (by omega) (hin.keep hb)
  have c2 := fun (J : Int) (p : Nat) (hJ : J = (p : Int) + 1) (hp : p < 16) w1 (hb : Below w.heap.size w w1) (h6 : N ≤ 60) => slot_at a cap N xs hN J p hJ hp w1 h6 (hin.keep hb)
  obtain ⟨X, hX⟩ : ∃ X : Int, X = 17 := ⟨_, rfl⟩
  rw [← hX] at hu
  have hun := undW_ok (l := l) hll (by rw [show l.toNat = lv by omega]; exact hu)
  rw [hun, ← hN] at c1
  have HK1 := Lib.hid c1
  have HK2 := Lib.hid c2
  have HZZ := Lib.hid hz0
  have h1 : ¬ l < 0 := by omega
  have h2 : ¬ 16 < l := by omega
  have h3 : ¬ X ≤ l := by omega
  have h4 : ¬ 17 < X := by omega
  have w1' : IntKind.i64.wrap (l + 1) = l + 1 := IntWalk.i64_in _ ⟨by omega, by omega⟩
  have HGL := Lib.hid hX
  have HNUM := Lib.hid (And.intro h0 (And.intro hg16 (And.intro hL (show X = (g : Int) + 1 by omega))))
  rw [← hN]
  clear c1 c2 hun hu hll hN hZ hin h0 hg16 hL hX hz0 hg
  have HAW := Lib.hid awake_yes
  obtain ⟨W, g0, hW, hg0, R0, B, sz⟩ := box1 w #[.int .i64 c, .int .i64 m] 23
  have HG := Lib.hid R0
  have HB := Lib.hid B
  clear R0 B sz
  go_enter Try.func7, Try.ntmps7
  go_wp2_with fail
  rw [← hW]
  try rw [← hg0]
  clear hW hg0
  refine (HAW.out _).mono ?_
  rintro e w1 ⟨rfl, hb⟩
  have HG1 := Lib.hid (HG.out.keep hb)
  have HB1 := Lib.hid (HB.out.trans (hb.mono HB.out.size))
  clear hb HAW HB HG
  go_wp2_with fail
  refine (HF.out _).mono ?_
  rintro e w2 ⟨rfl, hb⟩
  have HG2 := Lib.hid (HG1.out.keep hb)
  have HB2 := Lib.hid (HB1.out.trans (hb.mono HB1.out.size))
  clear hb HG1 HB1
  clear HF
  cases Z
  · go_wp2_with fail
    go_ret
    exact ⟨rfl, HB2.out⟩
  · have h6 : N ≤ 60 := of_decide_eq_true HZ.out
    have H6 := Lib.hid h6
    clear h6
    have go0 := HG2.out.c 0 _ rfl
    have go1 := HG2.out.c 1 _ rfl
    go_wp2_with fail
    refine (HK1.out _ HB2.out H6.out).mono ?_
    rintro e w3 ⟨rfl, hb⟩
    clear go0 go1
    have hk := hb.alloc hb.size (Obj.cells #[.int .i64 c, .int .i64 m] 23)
    have HG3 := Lib.hid (HG2.out.keep hk)
    have HV3 := Lib.hid (row_fresh w3 #[.int .i64 c, .int .i64 m] 23)
    have HB3 := Lib.hid (HB2.out.trans (hk.mono HB2.out.size))
    clear hb hk HG2 HB2
    go_upto_region 8 with fail
    obtain ⟨wA, hwA⟩ : ∃ x, x = w3.alloc (Obj.cells #[.int .i64 c, .int .i64 m] 23) := ⟨_, rfl⟩
    obtain ⟨gv, hgv⟩ : ∃ x, x = w3.heap.size := ⟨_, rfl⟩
    rw [← hwA] at HV3 HB3 HG3 ⊢
    rw [← hgv] at HV3 ⊢
    clear hwA hgv
    go_wp2_with fail
    go_loopw [10] (fun i wr => ∃ j : Nat, lv ≤ j ∧ j ≤ g ∧ i = .int .i64 ((j : Int) + 1) ∧ Hid (Below wA.heap.size wA wr)) (fun i _ => g + 1 - (intOf i).toNat)
    case atStart => exact ⟨lv, by omega, HNUM.out.1, by rw [HNUM.out.2.2.1], Lib.hid (Below.refl _ _)⟩
    case round =>
      obtain ⟨j, hj0, hj, rfl, hH⟩ := hrel
      have HG20 := Lib.hid (HG3.out.keep hH.out)
      have HV20 := Lib.hid (HV3.out.keep hH.out)
      have HB20 := Lib.hid (HB3.out.trans (hH.out.mono HB3.out.size))
      by_cases hlt : j < g
      · obtain ⟨J, hJ⟩ : ∃ J, J = (j : Int) + 1 := ⟨_, rfl⟩
        have hc := HK2.out J j hJ (by have := HNUM.out.2.1; omega)
        rw [HZZ.out j hj0 hlt] at hc
        obtain ⟨sn, hsn⟩ : ∃ s, (bestS xs j).n = s := ⟨_, rfl⟩
        rw [hsn] at hc
        have HC := Lib.hid hc
        have hJX : J < X := by have := HNUM.out; omega
        have HJ := Lib.hid hJ
        have w2' : IntKind.i64.wrap (J + 1) = J + 1 := IntWalk.i64_in _ (by have := HNUM.out; exact ⟨by omega, by omega⟩)
        rw [← hJ]
        clear hc hsn hJ
        go_wp2_with fail
        refine (HC.out _ HB20.out H6.out).mono ?_
        rintro e w21 ⟨rfl, hb⟩
        have hk := hb.alloc hb.size (Obj.cells #[.int .i64 0, .int .i64 sn] 23)
        have HT := Lib.hid (row_fresh w21 #[.int .i64 0, .int .i64 sn] 23)
        have HBR := Lib.hid (hH.out.trans (hk.mono hH.out.size))
        clear hb hk
        have to0 := HT.out.c 0 _ rfl
        have to1 := HT.out.c 1 _ rfl
        go_wp2_with fail
        go_roundw
        case rel => exact ⟨j + 1, by omega, by omega, by have h := HJ.out; subst h; go_num, Lib.hid HBR.out⟩
        case measure => have h := HJ.out; subst h; simp [intOf]; omega
      · obtain rfl : j = g := by omega
        have hJX : ¬ ((j : Int) + 1) < X := by have := HNUM.out; omega
        have h17 : X = 17 := HGL.out
        have go0 := HG20.out.c 0 _ rfl
        have go1 := HG20.out.c 1 _ rfl
        have vo0 := HV20.out.c 0 _ rfl
        have vo1 := HV20.out.c 1 _ rfl
        subst h17
        go_wp2_with fail
        go_ret
        exact ⟨rfl, HB20.out⟩

set_option maxHeartbeats 4000000 in
set_option maxRecDepth 100000 in
theorem highest_zero (a : Option Addr) (cap : Nat) (xs : List WrD) (lv g : Nat) (c m : Int) (h0 : lv ≤ g) (hg16 : g ≤ 16) (hz0 : ∀ j, lv ≤ j → j < g → (bestS xs j).k = 0) (hg : g < 16) (hk : (bestS xs g).k ≠ 0) (hl : lv = 0) (hu : undV (bestS xs) lv c m = .tuple #[.int .i64 ((g : Int) + 1), .agg #[.int .i64 (bestS xs g).k, .int .i64 (bestS xs g).n]]) (w : World) (hin : InS w a xs.length 4 (flat wrL xs)) : Calls Try.prog 7 #[.slice a xs.length cap, .int .i64 lv, .agg #[.int .i64 c, .int .i64 m]] w fun e w' => e = .returned (.bool true) ∧ Below w.heap.size w w' := by
  obtain ⟨N, hN⟩ : ∃ N, N = xs.length := ⟨_, rfl⟩
  obtain ⟨Z, hZ⟩ : ∃ Z, decide (N ≤ 60) = Z := ⟨_, rfl⟩
  have HF := Lib.hid (few_ins a N cap Z hZ)
  have HZ := Lib.hid hZ
  obtain ⟨l, hL⟩ : ∃ l : Int, l = (lv : Int) := ⟨_, rfl⟩
  rw [← hL]
  have hll : l = 0 ∨ lvB l = true := by
    by_cases h : lv = 0
    · exact .inl (by omega)
    · exact .inr (by unfold lvB; simp; omega)
  have c1 := fun w1 (hb : Below w.heap.size w w1) (h6 : N ≤ 60) => punder_any a cap xs l c m w1 (by omega) (hin.keep hb)
  have c2 := fun (J : Int) (p : Nat) (hJ : J = (p : Int) + 1) (hp : p < 16) w1 (hb : Below w.heap.size w w1) (h6 : N ≤ 60) => slot_at a cap N xs hN J p hJ hp w1 h6 (hin.keep hb)
  obtain ⟨X, hX⟩ : ∃ X : Int, X = (g : Int) + 1 := ⟨_, rfl⟩
  obtain ⟨y, hy⟩ : ∃ y, y = (bestS xs g).k := ⟨_, rfl⟩
  obtain ⟨z, hz⟩ : ∃ y, y = (bestS xs g).n := ⟨_, rfl⟩
  rw [← hX, ← hy, ← hz] at hu
  have c4 := c2 X g hX hg
  rw [← hy, ← hz] at c4
  have HK4 := Lib.hid c4
  rw [← hy] at hk
  have HKN := Lib.hid hk
  clear c4 hk hy hz
  have hu3 : undV (bestS xs) 0 c m = .tuple #[.int .i64 X, .agg #[.int .i64 y, .int .i64 z]] := by rw [← hl]; exact hu
  have c3 := fun w1 (hb : Below w.heap.size w w1) (h6 : N ≤ 60) => active_any a cap xs c m w1 (by omega) (hin.keep hb)
  rw [hu3, ← hN] at c3
  have HK3 := Lib.hid c3
  clear c3 hu3
  have hun := undW_ok (l := l) hll (by rw [show l.toNat = lv by omega]; exact hu)
  rw [hun, ← hN] at c1
  have HK1 := Lib.hid c1
  have HK2 := Lib.hid c2
  have HZZ := Lib.hid hz0
  have h1 : ¬ l < 0 := by omega
  have h2 : ¬ 16 < l := by omega
  have h3 : ¬ X ≤ l := by omega
  have h4 : ¬ 17 < X := by omega
  have w1' : IntKind.i64.wrap (l + 1) = l + 1 := IntWalk.i64_in _ ⟨by omega, by omega⟩
  have HGL := Lib.hid hg
  have HNUM := Lib.hid (And.intro h0 (And.intro hg16 (And.intro hL hX)))
  rw [← hN]
  clear c1 c2 hun hu hll hN hZ hin h0 hg16 hL hX hz0 hg
  have h5 : ¬ 0 < l := by have := HNUM.out.2.2.1; omega
  clear hl
  have h7x : (y != 0) = true := by simpa using HKN.out
  have HAW := Lib.hid awake_yes
  obtain ⟨W, g0, hW, hg0, R0, B, sz⟩ := box1 w #[.int .i64 c, .int .i64 m] 23
  have HG := Lib.hid R0
  have HB := Lib.hid B
  clear R0 B sz
  go_enter Try.func7, Try.ntmps7
  go_wp2_with fail
  rw [← hW]
  try rw [← hg0]
  clear hW hg0
  refine (HAW.out _).mono ?_
  rintro e w1 ⟨rfl, hb⟩
  have HG1 := Lib.hid (HG.out.keep hb)
  have HB1 := Lib.hid (HB.out.trans (hb.mono HB.out.size))
  clear hb HAW HB HG
  go_wp2_with fail
  refine (HF.out _).mono ?_
  rintro e w2 ⟨rfl, hb⟩
  have HG2 := Lib.hid (HG1.out.keep hb)
  have HB2 := Lib.hid (HB1.out.trans (hb.mono HB1.out.size))
  clear hb HG1 HB1
  clear HF
  cases Z
  · go_wp2_with fail
    go_ret
    exact ⟨rfl, HB2.out⟩
  · have h6 : N ≤ 60 := of_decide_eq_true HZ.out
    have H6 := Lib.hid h6
    clear h6
    have go0 := HG2.out.c 0 _ rfl
    have go1 := HG2.out.c 1 _ rfl
    go_wp2_with fail
    refine (HK1.out _ HB2.out H6.out).mono ?_
    rintro e w3 ⟨rfl, hb⟩
    clear go0 go1
    have hk := hb.alloc hb.size (Obj.cells #[.int .i64 y, .int .i64 z] 23)
    have HG3 := Lib.hid (HG2.out.keep hk)
    have HV3 := Lib.hid (row_fresh w3 #[.int .i64 y, .int .i64 z] 23)
    have HB3 := Lib.hid (HB2.out.trans (hk.mono HB2.out.size))
    clear hb hk HG2 HB2
    have h6x : (X == 17) = false := by rw [beq_eq_false_iff_ne]; intro h; have := HNUM.out; have := HGL.out; omega
    go_upto_region 8 with fail
    obtain ⟨wA, hwA⟩ : ∃ x, x = w3.alloc (Obj.cells #[.int .i64 y, .int .i64 z] 23) := ⟨_, rfl⟩
    obtain ⟨gv, hgv⟩ : ∃ x, x = w3.heap.size := ⟨_, rfl⟩
    rw [← hwA] at HV3 HB3 HG3 ⊢
    rw [← hgv] at HV3 ⊢
    clear hwA hgv
    go_wp2_with fail
    go_loopw [10] (fun i wr => ∃ j : Nat, lv ≤ j ∧ j ≤ g ∧ i = .int .i64 ((j : Int) + 1) ∧ Hid (Below wA.heap.size wA wr)) (fun i _ => g + 1 - (intOf i).toNat)
    case atStart => exact ⟨lv, by omega, HNUM.out.1, by rw [HNUM.out.2.2.1], Lib.hid (Below.refl _ _)⟩
    case round =>
      obtain ⟨j, hj0, hj, rfl, hH⟩ := hrel
      have HG20 := Lib.hid (HG3.out.keep hH.out)
      have HV20 := Lib.hid (HV3.out.keep hH.out)
      have HB20 := Lib.hid (HB3.out.trans (hH.out.mono HB3.out.size))
      by_cases hlt : j < g
      · obtain ⟨J, hJ⟩ : ∃ J, J = (j : Int) + 1 := ⟨_, rfl⟩
        have hc := HK2.out J j hJ (by have := HNUM.out.2.1; omega)
        rw [HZZ.out j hj0 hlt] at hc
        obtain ⟨sn, hsn⟩ : ∃ s, (bestS xs j).n = s := ⟨_, rfl⟩
        rw [hsn] at hc
        have HC := Lib.hid hc
        have hJX : J < X := by have := HNUM.out; omega
        have HJ := Lib.hid hJ
        have w2' : IntKind.i64.wrap (J + 1) = J + 1 := IntWalk.i64_in _ (by have := HNUM.out; exact ⟨by omega, by omega⟩)
        rw [← hJ]
        clear hc hsn hJ
        go_wp2_with fail
        refine (HC.out _ HB20.out H6.out).mono ?_
        rintro e w21 ⟨rfl, hb⟩
        have hk := hb.alloc hb.size (Obj.cells #[.int .i64 0, .int .i64 sn] 23)
        have HT := Lib.hid (row_fresh w21 #[.int .i64 0, .int .i64 sn] 23)
        have HBR := Lib.hid (hH.out.trans (hk.mono hH.out.size))
        clear hb hk
        have to0 := HT.out.c 0 _ rfl
        have to1 := HT.out.c 1 _ rfl
        go_wp2_with fail
        go_roundw
        case rel => exact ⟨j + 1, by omega, by omega, by have h := HJ.out; subst h; go_num, Lib.hid HBR.out⟩
        case measure => have h := HJ.out; subst h; simp [intOf]; omega
      · obtain rfl : j = g := by omega
        have hJX : ¬ ((j : Int) + 1) < X := by have := HNUM.out; omega
        go_wp2_with fail
        refine (HK4.out _ HB20.out H6.out).mono ?_
        rintro e w21 ⟨rfl, hb⟩
        have hk := hb.alloc hb.size (Obj.cells #[.int .i64 y, .int .i64 z] 23)
        have HG21 := Lib.hid (HG20.out.keep hk)
        have HV21 := Lib.hid (HV20.out.keep hk)
        have HS21 := Lib.hid (row_fresh w21 #[.int .i64 y, .int .i64 z] 23)
        have HB21 := Lib.hid (HB20.out.trans (hk.mono HB20.out.size))
        clear hb hk HG20 HV20 HB20
        have go0 := HG21.out.c 0 _ rfl
        have go1 := HG21.out.c 1 _ rfl
        go_wp2_with fail
        refine (HK3.out _ HB21.out H6.out).mono ?_
        rintro e w22 ⟨rfl, hb⟩
        clear go0 go1
        have hk := hb.alloc hb.size (Obj.cells #[.int .i64 y, .int .i64 z] 23)
        have HG22 := Lib.hid (HG21.out.keep hk)
        have HV22 := Lib.hid (HV21.out.keep hk)
        have HS22 := Lib.hid (HS21.out.keep hk)
        have HW22 := Lib.hid (row_fresh w22 #[.int .i64 y, .int .i64 z] 23)
        have HB22 := Lib.hid (HB21.out.trans (hk.mono HB21.out.size))
        clear hb hk HG21 HV21 HS21 HB21
        have vo0 := HV22.out.c 0 _ rfl
        have vo1 := HV22.out.c 1 _ rfl
        have so0 := HS22.out.c 0 _ rfl
        have so1 := HS22.out.c 1 _ rfl
        have wo0 := HW22.out.c 0 _ rfl
        have wo1 := HW22.out.c 1 _ rfl
        go_wp2_with fail
        go_ret
        exact ⟨rfl, HB22.out⟩

set_option maxHeartbeats 4000000 in
set_option maxRecDepth 100000 in
theorem highest_pos (a : Option Addr) (cap : Nat) (xs : List WrD) (lv g : Nat) (c m : Int) (h0 : lv ≤ g) (hg16 : g ≤ 16) (hz0 : ∀ j, lv ≤ j → j < g → (bestS xs j).k = 0) (hg : g < 16) (hk : (bestS xs g).k ≠ 0) (hl : 0 < lv) (hu : undV (bestS xs) lv c m = .tuple #[.int .i64 ((g : Int) + 1), .agg #[.int .i64 (bestS xs g).k, .int .i64 (bestS xs g).n]]) (w : World) (hin : InS w a xs.length 4 (flat wrL xs)) : Calls Try.prog 7 #[.slice a xs.length cap, .int .i64 lv, .agg #[.int .i64 c, .int .i64 m]] w fun e w' => e = .returned (.bool true) ∧ Below w.heap.size w w' := by
  obtain ⟨N, hN⟩ : ∃ N, N = xs.length := ⟨_, rfl⟩
  obtain ⟨Z, hZ⟩ : ∃ Z, decide (N ≤ 60) = Z := ⟨_, rfl⟩
  have HF := Lib.hid (few_ins a N cap Z hZ)
  have HZ := Lib.hid hZ
  obtain ⟨l, hL⟩ : ∃ l : Int, l = (lv : Int) := ⟨_, rfl⟩
  rw [← hL]
  have hll : l = 0 ∨ lvB l = true := by
    by_cases h : lv = 0
    · exact .inl (by omega)
    · exact .inr (by unfold lvB; simp; omega)
  have c1 := fun w1 (hb : Below w.heap.size w w1) (h6 : N ≤ 60) => punder_any a cap xs l c m w1 (by omega) (hin.keep hb)
  have c2 := fun (J : Int) (p : Nat) (hJ : J = (p : Int) + 1) (hp : p < 16) w1 (hb : Below w.heap.size w w1) (h6 : N ≤ 60) => slot_at a cap N xs hN J p hJ hp w1 h6 (hin.keep hb)
  obtain ⟨X, hX⟩ : ∃ X : Int, X = (g : Int) + 1 := ⟨_, rfl⟩
  obtain ⟨y, hy⟩ : ∃ y, y = (bestS xs g).k := ⟨_, rfl⟩
  obtain ⟨z, hz⟩ : ∃ y, y = (bestS xs g).n := ⟨_, rfl⟩
  rw [← hX, ← hy, ← hz] at hu
  have c4 := c2 X g hX hg
  rw [← hy, ← hz] at c4
  have HK4 := Lib.hid c4
  rw [← hy] at hk
  have HKN := Lib.hid hk
  clear c4 hk hy hz
  obtain ⟨x3, y3, z3, hu3⟩ := undV_is (bestS xs) 0 c m
  have c3 := fun w1 (hb : Below w.heap.size w w1) (h6 : N ≤ 60) => active_any a cap xs c m w1 (by omega) (hin.keep hb)
  rw [hu3, ← hN] at c3
  have HK3 := Lib.hid c3
  clear c3 hu3
  have hun := undW_ok (l := l) hll (by rw [show l.toNat = lv by omega]; exact hu)
  rw [hun, ← hN] at c1
  have HK1 := Lib.hid c1
  have HK2 := Lib.hid c2
  have HZZ := Lib.hid hz0
  have h1 : ¬ l < 0 := by omega
  have h2 : ¬ 16 < l := by omega
  have h3 : ¬ X ≤ l := by omega
  have h4 : ¬ 17 < X := by omega
  have w1' : IntKind.i64.wrap (l + 1) = l + 1 := IntWalk.i64_in _ ⟨by omega, by omega⟩
  have HGL := Lib.hid hg
  have HNUM := Lib.hid (And.intro h0 (And.intro hg16 (And.intro hL hX)))
  rw [← hN]
  clear c1 c2 hun hu hll hN hZ hin h0 hg16 hL hX hz0 hg
  have h5 : 0 < l := by have := HNUM.out.2.2.1; omega
  clear hl
  have h7x : (y != 0) = true := by simpa using HKN.out
  have HAW := Lib.hid awake_yes
  obtain ⟨W, g0, hW, hg0, R0, B, sz⟩ := box1 w #[.int .i64 c, .int .i64 m] 23
  have HG := Lib.hid R0
  have HB := Lib.hid B
  clear R0 B sz
  go_enter Try.func7, Try.ntmps7
  go_wp2_with fail
  rw [← hW]
  try rw [← hg0]
  clear hW hg0
  refine (HAW.out _).mono ?_
  rintro e w1 ⟨rfl, hb⟩
  have HG1 := Lib.hid (HG.out.keep hb)
  have HB1 := Lib.hid (HB.out.trans (hb.mono HB.out.size))
  clear hb HAW HB HG
  go_wp2_with fail
  refine (HF.out _).mono ?_
  rintro e w2 ⟨rfl, hb⟩
  have HG2 := Lib.hid (HG1.out.keep hb)
  have HB2 := Lib.hid (HB1.out.trans (hb.mono HB1.out.size))
  clear hb HG1 HB1
  clear HF
  cases Z
  · go_wp2_with fail
    go_ret
    exact ⟨rfl, HB2.out⟩
  · have h6 : N ≤ 60 := of_decide_eq_true HZ.out
    have H6 := Lib.hid h6
    clear h6
    have go0 := HG2.out.c 0 _ rfl
    have go1 := HG2.out.c 1 _ rfl
    go_wp2_with fail
    refine (HK1.out _ HB2.out H6.out).mono ?_
    rintro e w3 ⟨rfl, hb⟩
    clear go0 go1
    have hk := hb.alloc hb.size (Obj.cells #[.int .i64 y, .int .i64 z] 23)
    have HG3 := Lib.hid (HG2.out.keep hk)
    have HV3 := Lib.hid (row_fresh w3 #[.int .i64 y, .int .i64 z] 23)
    have HB3 := Lib.hid (HB2.out.trans (hk.mono HB2.out.size))
    clear hb hk HG2 HB2
    have h6x : (X == 17) = false := by rw [beq_eq_false_iff_ne]; intro h; have := HNUM.out; have := HGL.out; omega
    go_upto_region 8 with fail
    obtain ⟨wA, hwA⟩ : ∃ x, x = w3.alloc (Obj.cells #[.int .i64 y, .int .i64 z] 23) := ⟨_, rfl⟩
    obtain ⟨gv, hgv⟩ : ∃ x, x = w3.heap.size := ⟨_, rfl⟩
    rw [← hwA] at HV3 HB3 HG3 ⊢
    rw [← hgv] at HV3 ⊢
    clear hwA hgv
    go_wp2_with fail
    go_loopw [10] (fun i wr => ∃ j : Nat, lv ≤ j ∧ j ≤ g ∧ i = .int .i64 ((j : Int) + 1) ∧ Hid (Below wA.heap.size wA wr)) (fun i _ => g + 1 - (intOf i).toNat)
    case atStart => exact ⟨lv, by omega, HNUM.out.1, by rw [HNUM.out.2.2.1], Lib.hid (Below.refl _ _)⟩
    case round =>
      obtain ⟨j, hj0, hj, rfl, hH⟩ := hrel
      have HG20 := Lib.hid (HG3.out.keep hH.out)
      have HV20 := Lib.hid (HV3.out.keep hH.out)
      have HB20 := Lib.hid (HB3.out.trans (hH.out.mono HB3.out.size))
      by_cases hlt : j < g
      · obtain ⟨J, hJ⟩ : ∃ J, J = (j : Int) + 1 := ⟨_, rfl⟩
        have hc := HK2.out J j hJ (by have := HNUM.out.2.1; omega)
        rw [HZZ.out j hj0 hlt] at hc
        obtain ⟨sn, hsn⟩ : ∃ s, (bestS xs j).n = s := ⟨_, rfl⟩
        rw [hsn] at hc
        have HC := Lib.hid hc
        have hJX : J < X := by have := HNUM.out; omega
        have HJ := Lib.hid hJ
        have w2' : IntKind.i64.wrap (J + 1) = J + 1 := IntWalk.i64_in _ (by have := HNUM.out; exact ⟨by omega, by omega⟩)
        rw [← hJ]
        clear hc hsn hJ
        go_wp2_with fail
        refine (HC.out _ HB20.out H6.out).mono ?_
        rintro e w21 ⟨rfl, hb⟩
        have hk := hb.alloc hb.size (Obj.cells #[.int .i64 0, .int .i64 sn] 23)
        have HT := Lib.hid (row_fresh w21 #[.int .i64 0, .int .i64 sn] 23)
        have HBR := Lib.hid (hH.out.trans (hk.mono hH.out.size))
        clear hb hk
        have to0 := HT.out.c 0 _ rfl
        have to1 := HT.out.c 1 _ rfl
        go_wp2_with fail
        go_roundw
        case rel => exact ⟨j + 1, by omega, by omega, by have h := HJ.out; subst h; go_num, Lib.hid HBR.out⟩
        case measure => have h := HJ.out; subst h; simp [intOf]; omega
      · obtain rfl : j = g := by omega
        have hJX : ¬ ((j : Int) + 1) < X := by have := HNUM.out; omega
        go_wp2_with fail
        refine (HK4.out _ HB20.out H6.out).mono ?_
        rintro e w21 ⟨rfl, hb⟩
        have hk := hb.alloc hb.size (Obj.cells #[.int .i64 y, .int .i64 z] 23)
        have HG21 := Lib.hid (HG20.out.keep hk)
        have HV21 := Lib.hid (HV20.out.keep hk)
        have HS21 := Lib.hid (row_fresh w21 #[.int .i64 y, .int .i64 z] 23)
        have HB21 := Lib.hid (HB20.out.trans (hk.mono HB20.out.size))
        clear hb hk HG20 HV20 HB20
        have go0 := HG21.out.c 0 _ rfl
        have go1 := HG21.out.c 1 _ rfl
        go_wp2_with fail
        refine (HK3.out _ HB21.out H6.out).mono ?_
        rintro e w22 ⟨rfl, hb⟩
        clear go0 go1
        have hk := hb.alloc hb.size (Obj.cells #[.int .i64 y3, .int .i64 z3] 23)
        have HG22 := Lib.hid (HG21.out.keep hk)
        have HV22 := Lib.hid (HV21.out.keep hk)
        have HS22 := Lib.hid (HS21.out.keep hk)
        have HW22 := Lib.hid (row_fresh w22 #[.int .i64 y3, .int .i64 z3] 23)
        have HB22 := Lib.hid (HB21.out.trans (hk.mono HB21.out.size))
        clear hb hk HG21 HV21 HS21 HB21
        have vo0 := HV22.out.c 0 _ rfl
        have vo1 := HV22.out.c 1 _ rfl
        have so0 := HS22.out.c 0 _ rfl
        have so1 := HS22.out.c 1 _ rfl
        have wo0 := HW22.out.c 0 _ rfl
        have wo1 := HW22.out.c 1 _ rfl
        go_wp2_with fail
        go_ret
        exact ⟨rfl, HB22.out⟩

set_option maxHeartbeats 4000000 in
set_option maxRecDepth 100000 in
theorem highest_lo (a : Option Addr) (cap : Nat) (xs : List WrD) (l c m : Int) (h : l < 0) (w : World) : Calls Try.prog 7 #[.slice a xs.length cap, .int .i64 l, .agg #[.int .i64 c, .int .i64 m]] w fun e w' => e = .returned (.bool true) ∧ Below w.heap.size w w' := by
  obtain ⟨N, hN⟩ : ∃ N, N = xs.length := ⟨_, rfl⟩
  obtain ⟨Z, hZ⟩ : ∃ Z, decide (N ≤ 60) = Z := ⟨_, rfl⟩
  have HF := Lib.hid (few_ins a N cap Z hZ)
  rw [← hN]
  clear hN hZ
  have HAW := Lib.hid awake_yes
  obtain ⟨W, g0, hW, hg0, R0, B, sz⟩ := box1 w #[.int .i64 c, .int .i64 m] 23
  have HG := Lib.hid R0
  have HB := Lib.hid B
  clear R0 B sz
  go_enter Try.func7, Try.ntmps7
  go_wp2_with fail
  rw [← hW]
  try rw [← hg0]
  clear hW hg0
  refine (HAW.out _).mono ?_
  rintro e w1 ⟨rfl, hb⟩
  have HG1 := Lib.hid (HG.out.keep hb)
  have HB1 := Lib.hid (HB.out.trans (hb.mono HB.out.size))
  clear hb HAW HB HG
  go_wp2_with fail
  refine (HF.out _).mono ?_
  rintro e w2 ⟨rfl, hb⟩
  have HG2 := Lib.hid (HG1.out.keep hb)
  have HB2 := Lib.hid (HB1.out.trans (hb.mono HB1.out.size))
  clear hb HG1 HB1
  clear HF
  cases Z
  · go_wp2_with fail
    go_ret
    exact ⟨rfl, HB2.out⟩
  · go_wp2_with fail
    go_ret
    exact ⟨rfl, HB2.out⟩

set_option maxHeartbeats 4000000 in
set_option maxRecDepth 100000 in
theorem highest_hi (a : Option Addr) (cap : Nat) (xs : List WrD) (l c m : Int) (h : 16 < l) (w : World) : Calls Try.prog 7 #[.slice a xs.length cap, .int .i64 l, .agg #[.int .i64 c, .int .i64 m]] w fun e w' => e = .returned (.bool true) ∧ Below w.heap.size w w' := by
  obtain ⟨N, hN⟩ : ∃ N, N = xs.length := ⟨_, rfl⟩
  obtain ⟨Z, hZ⟩ : ∃ Z, decide (N ≤ 60) = Z := ⟨_, rfl⟩
  have HF := Lib.hid (few_ins a N cap Z hZ)
  rw [← hN]
  clear hN hZ
  have hn : ¬ l < 0 := by omega
  have HAW := Lib.hid awake_yes
  obtain ⟨W, g0, hW, hg0, R0, B, sz⟩ := box1 w #[.int .i64 c, .int .i64 m] 23
  have HG := Lib.hid R0
  have HB := Lib.hid B
  clear R0 B sz
  go_enter Try.func7, Try.ntmps7
  go_wp2_with fail
  rw [← hW]
  try rw [← hg0]
  clear hW hg0
  refine (HAW.out _).mono ?_
  rintro e w1 ⟨rfl, hb⟩
  have HG1 := Lib.hid (HG.out.keep hb)
  have HB1 := Lib.hid (HB.out.trans (hb.mono HB.out.size))
  clear hb HAW HB HG
  go_wp2_with fail
  refine (HF.out _).mono ?_
  rintro e w2 ⟨rfl, hb⟩
  have HG2 := Lib.hid (HG1.out.keep hb)
  have HB2 := Lib.hid (HB1.out.trans (hb.mono HB1.out.size))
  clear hb HG1 HB1
  clear HF
  cases Z
  · go_wp2_with fail
    go_ret
    exact ⟨rfl, HB2.out⟩
  · go_wp2_with fail
    go_ret
    exact ⟨rfl, HB2.out⟩
theorem highest_law (a : Option Addr) (cap : Nat) (xs : List WrD) (l c m : Int) (w : World) (hin : InS w a xs.length 4 (flat wrL xs)) : Calls Try.prog 7 #[.slice a xs.length cap, .int .i64 l, .agg #[.int .i64 c, .int .i64 m]] w fun e w' => e = .returned (.bool true) ∧ Below w.heap.size w w' := by
  by_cases h1 : l < 0
  · exact highest_lo a cap xs l c m h1 w
  by_cases h2 : 16 < l
  · exact highest_hi a cap xs l c m h2 w
  obtain ⟨lv, rfl⟩ : ∃ n : Nat, l = (n : Int) := ⟨l.toNat, by omega⟩
  obtain ⟨g, h0, hg, hz, ⟨e1, e2⟩ | ⟨e1, e2, e3⟩⟩ := und_facts (bestS xs) lv (by omega) c m
  · exact highest_end a cap xs lv g c m h0 hg hz e1 e2 w hin
  by_cases hl : lv = 0
  · exact highest_zero a cap xs lv g c m h0 hg hz e1 e2 hl e3 w hin
  · exact highest_pos a cap xs lv g c m h0 hg hz e1 e2 (by omega) e3 w hin
end Go.Proofs.Ytlmilalibgehpaa
