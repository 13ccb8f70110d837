/- The law PriorityObeys. -/
import Derived.Test.YtlmilalibgehpaaLh
import Derived.Test.YtlmilalibgehpaaPo
namespace Go.Proofs.Ytlmilalibgehpaa
open Go.RowKit

set_option linter.unusedVariables false
theorem active_at (a : Option Addr) (cap N : Nat) (xs : List WrD) (hN : N = xs.length) (c m : Int) (V : Value) (hV : undV (bestS xs) 0 c m = V) (w : World) (h6 : N ≤ 60) (hin : InS w a xs.length 4 (flat wrL xs)) : Calls Try.prog 21 #[.slice a N cap, .agg #[.int .i64 c, .int .i64 m]] w fun e w' => e = .returned V ∧ Below w.heap.size w w' := by
  subst hN
  have h := active_any a cap xs c m w (by omega) hin
  rw [hV] at h
  exact h

set_option maxHeartbeats 4000000 in
set_option maxRecDepth 100000 in
theorem obeys_err (a : Option Addr) (cap : Nat) (xs : List WrD) (l vk vn c m : Int) (hne : putE (bestS xs) l vk vn ≠ 0) (w : World) (hin : InS w a xs.length 4 (flat wrL xs)) : Calls Try.prog 8 #[.slice a xs.length cap, .int .i64 l, .agg #[.int .i64 vk, .int .i64 vn], .agg #[.int .i64 c, .int .i64 m]] w fun e w' => e = .returned (.bool true) ∧ Below w.heap.size w w' := by
  obtain ⟨N, hN⟩ : ∃ N, N = xs.length := ⟨_, rfl⟩
  obtain ⟨Z, hZ⟩ : ∃ Z, decide (N ≤ 60) = Z := ⟨_, rfl⟩
  have HF := Lib.hid (few_ins a N cap Z hZ)
  have HZ := Lib.hid hZ
  obtain ⟨E, hE⟩ : ∃ E, putE (bestS xs) l vk vn = E := ⟨_, rfl⟩
  rw [hE] at hne
  have HP := Lib.hid (fun w1 (hb : Below w.heap.size w w1) h6 => put_ins a cap N xs hN l vk vn w1 h6 (hin.keep hb) [] (put_bad hE hne) E hE)
  have t1 : (E != 0) = true := by simpa using hne
  rw [← hN]
  clear hE hne hN hZ hin
  have HAW := Lib.hid awake_yes
  obtain ⟨W, g0, g1, hW, hg0, hg1, R0, R1, B, sz⟩ := box2 w #[.int .i64 vk, .int .i64 vn] 23 #[.int .i64 c, .int .i64 m] 23
  have HG := Lib.hid R0
  have HH := Lib.hid R1
  have HB := Lib.hid B
  clear R0 R1 B sz
  go_enter Try.func8, Try.ntmps8
  go_wp2_with fail
  rw [← hW]
  try rw [← hg1]
  try rw [← hg0]
  clear hW hg0 hg1
  refine (HAW.out _).mono ?_
  rintro e w1 ⟨rfl, hb⟩
  have HG1 := Lib.hid (HG.out.keep hb)
  have HH1 := Lib.hid (HH.out.keep hb)
  have HB1 := Lib.hid (HB.out.trans (hb.mono HB.out.size))
  clear hb HAW HB HG HH
  go_wp2_with fail
  refine (HF.out _).mono ?_
  rintro e w2 ⟨rfl, hb⟩
  have HG2 := Lib.hid (HG1.out.keep hb)
  have HH2 := Lib.hid (HH1.out.keep hb)
  have HB2 := Lib.hid (HB1.out.trans (hb.mono HB1.out.size))
  clear hb HG1 HH1 HB1
  clear HF
  cases Z
  · go_wp2_with fail
    go_ret
    exact ⟨rfl, HB2.out⟩
  · have H6 := Lib.hid (show N ≤ 60 from of_decide_eq_true HZ.out)
    have go0 := HG2.out.c 0 _ rfl
    have go1 := HG2.out.c 1 _ rfl
    go_wp2_with fail
    refine (HP.out _ HB2.out H6.out).mono ?_
    rintro e w3 ⟨b3, c3, rfl, hi, hb⟩
    clear go0 go1
    have HG3 := Lib.hid (HG2.out.keep hb)
    have HH3 := Lib.hid (HH2.out.keep hb)
    have HQ3 := Lib.hid hi
    have HB3 := Lib.hid (HB2.out.trans (hb.mono HB2.out.size))
    clear hb hi HG2 HH2 HB2
    go_wp2_with fail
    go_ret
    exact ⟨rfl, HB3.out⟩

set_option maxHeartbeats 4000000 in
set_option maxRecDepth 100000 in
theorem obeys_low (a : Option Addr) (cap : Nat) (xs : List WrD) (l vk vn c m : Int) (p g : Nat) (hp : p < 16) (hpl : l = (p : Int) + 1) (hg16 : g ≤ 16) (hz : ∀ j, 0 ≤ j → j < g → (bestS xs j).k = 0) (hh : g < 16 → (bestS xs g).k ≠ 0) (hu : ∀ c m, undV (bestS xs) 0 c m = valG (bestS xs) g c m) (hE : putE (bestS xs) l vk vn = 0) (hT : bestS (putL (bestS xs) l vk vn) = setS (bestS xs) p (putX (bestS xs) l vk vn)) (hgp : g < p) (w : World) (hin : InS w a xs.length 4 (flat wrL xs)) : Calls Try.prog 8 #[.slice a xs.length cap, .int .i64 l, .agg #[.int .i64 vk, .int .i64 vn], .agg #[.int .i64 c, .int .i64 m]] w fun e w' => e = .returned (.bool true) ∧ Below w.heap.size w w' := by
  obtain ⟨N, hN⟩ : ∃ N, N = xs.length := ⟨_, rfl⟩
  obtain ⟨Z, hZ⟩ : ∃ Z, decide (N ≤ 60) = Z := ⟨_, rfl⟩
  have HF := Lib.hid (few_ins a N cap Z hZ)
  have HZ := Lib.hid hZ
  have hpk : (putX (bestS xs) l vk vn).k = vk := rfl
  have hpn : (putX (bestS xs) l vk vn).n = vn := rfl
  obtain ⟨x, hxx⟩ : ∃ x, putX (bestS xs) l vk vn = x := ⟨_, rfl⟩
  rw [hxx] at hT hpk hpn
  obtain ⟨y, z, hyz⟩ := valG_is (bestS xs) g c m
  obtain ⟨X, hX⟩ : ∃ X : Int, X = (g : Int) + 1 := ⟨_, rfl⟩
  rw [← hX] at hyz
  obtain ⟨PL, hPL⟩ : ∃ L, putL (bestS xs) l vk vn = L := ⟨_, rfl⟩
  rw [hPL] at hT
  have hPL16 : PL.length ≤ 60 := by
    rw [← hPL]; unfold putL; rw [if_pos hE]
    exact Nat.le_trans (writes_len _) (by decide)
  have HP := Lib.hid (fun w1 (hb : Below w.heap.size w w1) h6 => put_ins a cap N xs hN l vk vn w1 h6 (hin.keep hb) PL hPL 0 hE)
  have HS1 := Lib.hid (fun (J : Int) (p : Nat) (hJ : J = (p : Int) + 1) (hp : p < 16) w1 (hb : Below w.heap.size w w1) h6 => slot_at a cap N xs hN J p hJ hp w1 h6 (hin.keep hb))
  have HS2 := Lib.hid (fun b cp (J : Int) (p : Nat) (hJ : J = (p : Int) + 1) (hp : p < 16) w1 hi => slot_at b cp PL.length PL rfl J p hJ hp w1 hPL16 hi)
  have HA1 := Lib.hid (fun w1 (hb : Below w.heap.size w w1) h6 => active_at a cap N xs hN c m _ ((hu c m).trans hyz) w1 h6 (hin.keep hb))
  have hv2 : undV (bestS PL) 0 c m = .tuple #[.int .i64 X, .agg #[.int .i64 y, .int .i64 z]] := by rw [hT]; exact (obey_low hp hgp hz hh c m).trans hyz
  have HA2 := Lib.hid (fun b cp w1 hi => active_at b cp PL.length PL rfl c m _ hv2 w1 hPL16 hi)
  have HTT := Lib.hid hT
  have HPK := Lib.hid hpk
  have HPN := Lib.hid hpn
  have HNUM := Lib.hid (And.intro hpl (And.intro hp hX))
  have h1 : X < l := by omega
  rw [← hN]
  clear hpk hpn hxx hyz hX hPL hPL16 hv2 hu hT hE hp hpl hz hh hg16 hgp hN hZ hin 
  have HAW := Lib.hid awake_yes
  obtain ⟨W, g0, g1, hW, hg0, hg1, R0, R1, B, sz⟩ := box2 w #[.int .i64 vk, .int .i64 vn] 23 #[.int .i64 c, .int .i64 m] 23
  have HG := Lib.hid R0
  have HH := Lib.hid R1
  have HB := Lib.hid B
  clear R0 R1 B sz
  go_enter Try.func8, Try.ntmps8
  go_wp2_with fail
  rw [← hW]
  try rw [← hg1]
  try rw [← hg0]
  clear hW hg0 hg1
  refine (HAW.out _).mono ?_
  rintro e w1 ⟨rfl, hb⟩
  have HG1 := Lib.hid (HG.out.keep hb)
  have HH1 := Lib.hid (HH.out.keep hb)
  have HB1 := Lib.hid (HB.out.trans (hb.mono HB.out.size))
  clear hb HAW HB HG HH
  go_wp2_with fail
  refine (HF.out _).mono ?_
  rintro e w2 ⟨rfl, hb⟩
  have HG2 := Lib.hid (HG1.out.keep hb)
  have HH2 := Lib.hid (HH1.out.keep hb)
  have HB2 := Lib.hid (HB1.out.trans (hb.mono HB1.out.size))
  clear hb HG1 HH1 HB1
  clear HF
  cases Z
  · go_wp2_with fail
    go_ret
    exact ⟨rfl, HB2.out⟩
  · have H6 := Lib.hid (show N ≤ 60 from of_decide_eq_true HZ.out)
    have go0 := HG2.out.c 0 _ rfl
    have go1 := HG2.out.c 1 _ rfl
    go_wp2_with fail
    refine (HP.out _ HB2.out H6.out).mono ?_
    rintro e w3 ⟨b3, c3, rfl, hi, hb⟩
    clear go0 go1
    have HG3 := Lib.hid (HG2.out.keep hb)
    have HH3 := Lib.hid (HH2.out.keep hb)
    have HP3 := Lib.hid hi
    have HB3 := Lib.hid (HB2.out.trans (hb.mono HB2.out.size))
    clear hb hi HG2 HH2 HB2
    obtain ⟨wA, hwA⟩ : ∃ x, x = w3 := ⟨_, rfl⟩
    rw [← hwA] at HP3 HB3 HG3 HH3 ⊢
    clear hwA HP
    go_wp2_with fail
    go_loopw [11] (fun i wr => ∃ j : Nat, j ≤ 16 ∧ i = .int .i64 ((j : Int) + 1) ∧ Hid (Below wA.heap.size wA wr)) (fun i _ => 17 - (intOf i).toNat)
    case atStart => exact ⟨0, by omega, rfl, Lib.hid (Below.refl _ _)⟩
    case round =>
      obtain ⟨j, hj, rfl, hH⟩ := hrel
      have HG20 := Lib.hid (HG3.out.keep hH.out)
      have HH20 := Lib.hid (HH3.out.keep hH.out)
      have HP20 := Lib.hid (HP3.out.keep hH.out)
      have HB20 := Lib.hid (HB3.out.trans (hH.out.mono HB3.out.size))
      by_cases hlt : j < 16
      · obtain ⟨J, hJ⟩ : ∃ J, J = (j : Int) + 1 := ⟨_, rfl⟩
        have hc1 := HS1.out J j hJ hlt
        have hc2' := fun b cp w1 hi => HS2.out b cp J j hJ hlt w1 hi
        obtain ⟨ok, hok⟩ : ∃ s, (bestS xs j).k = s := ⟨_, rfl⟩
        obtain ⟨on, hon⟩ : ∃ s, (bestS xs j).n = s := ⟨_, rfl⟩
        rw [hok, hon] at hc1
        have HC1 := Lib.hid hc1
        have hJ16 : J ≤ 16 := by omega
        have HJ := Lib.hid hJ
        have w2' : IntKind.i64.wrap (J + 1) = J + 1 := IntWalk.i64_in _ ⟨by omega, by omega⟩
        rw [← hJ]
        clear hc1 hJ
        by_cases he : j = p
        · have hJl2 : J = l := by have := HNUM.out.1; have := HJ.out; omega
          have hc2 := hc2' ; rw [HTT.out, show setS (bestS xs) p x j = x from by rw [he]; exact set_at _ _ _, HPK.out, HPN.out] at hc2
          subst hJl2
          have HC2 := Lib.hid hc2
          clear hc2 hc2' he hok hon
          have HR20 := Lib.hid hH.out
          clear hH
          go_wp2_with fail
          refine (HC1.out _ HB20.out H6.out).mono ?_
          rintro e w21 ⟨rfl, hb⟩
          have hk := hb.alloc hb.size (Obj.cells #[.int .i64 ok, .int .i64 on] 23)
          have HG21 := Lib.hid (HG20.out.keep hk)
          have HH21 := Lib.hid (HH20.out.keep hk)
          have HP21 := Lib.hid (HP20.out.keep hk)
          have HR21 := Lib.hid (HR20.out.trans (hk.mono HR20.out.size))
          have HS21 := Lib.hid (row_fresh w21 #[.int .i64 ok, .int .i64 on] 23)
          have HB21 := Lib.hid (HB20.out.trans (hk.mono HB20.out.size))
          clear hb hk HG20 HH20 HP20 HR20 HB20
          go_wp2_with fail
          refine (HC2.out _ _ _ HP21.out).mono ?_
          rintro e w22 ⟨rfl, hb⟩
          have hk := hb.alloc hb.size (Obj.cells #[.int .i64 vk, .int .i64 vn] 23)
          have HG22 := Lib.hid (HG21.out.keep hk)
          have HH22 := Lib.hid (HH21.out.keep hk)
          have HP22 := Lib.hid (HP21.out.keep hk)
          have HR22 := Lib.hid (HR21.out.trans (hk.mono HR21.out.size))
          have HS22 := Lib.hid (HS21.out.keep hk)
          have HT22 := Lib.hid (row_fresh w22 #[.int .i64 vk, .int .i64 vn] 23)
          have HB22 := Lib.hid (HB21.out.trans (hk.mono HB21.out.size))
          clear hb hk HG21 HH21 HP21 HR21 HS21 HB21
          have go0 := HG22.out.c 0 _ rfl
          have go1 := HG22.out.c 1 _ rfl
          have so0 := HS22.out.c 0 _ rfl
          have so1 := HS22.out.c 1 _ rfl
          have to0 := HT22.out.c 0 _ rfl
          have to1 := HT22.out.c 1 _ rfl
          go_wp2_with fail
          go_roundw
          case rel => exact ⟨j + 1, by omega, by have h := HJ.out; subst h; go_num, Lib.hid HR22.out⟩
          case measure => have h := HJ.out; subst h; simp [intOf]; omega
        · have hJl : (J == l) = false := by rw [beq_eq_false_iff_ne]; have := HNUM.out.1; have := HJ.out; omega
          have hJl2 : ¬ J = l := by have := HNUM.out.1; have := HJ.out; omega
          have hc2 := hc2' ; rw [HTT.out, show setS (bestS xs) p x j = bestS xs j from set_off he, hok, hon] at hc2
          have HC2 := Lib.hid hc2
          clear hc2 hc2' he hok hon
          have HR20 := Lib.hid hH.out
          clear hH
          go_wp2_with fail
          refine (HC1.out _ HB20.out H6.out).mono ?_
          rintro e w21 ⟨rfl, hb⟩
          have hk := hb.alloc hb.size (Obj.cells #[.int .i64 ok, .int .i64 on] 23)
          have HG21 := Lib.hid (HG20.out.keep hk)
          have HH21 := Lib.hid (HH20.out.keep hk)
          have HP21 := Lib.hid (HP20.out.keep hk)
          have HR21 := Lib.hid (HR20.out.trans (hk.mono HR20.out.size))
          have HS21 := Lib.hid (row_fresh w21 #[.int .i64 ok, .int .i64 on] 23)
          have HB21 := Lib.hid (HB20.out.trans (hk.mono HB20.out.size))
          clear hb hk HG20 HH20 HP20 HR20 HB20
          go_wp2_with fail
          refine (HC2.out _ _ _ HP21.out).mono ?_
          rintro e w22 ⟨rfl, hb⟩
          have hk := hb.alloc hb.size (Obj.cells #[.int .i64 ok, .int .i64 on] 23)
          have HG22 := Lib.hid (HG21.out.keep hk)
          have HH22 := Lib.hid (HH21.out.keep hk)
          have HP22 := Lib.hid (HP21.out.keep hk)
          have HR22 := Lib.hid (HR21.out.trans (hk.mono HR21.out.size))
          have HS22 := Lib.hid (HS21.out.keep hk)
          have HT22 := Lib.hid (row_fresh w22 #[.int .i64 ok, .int .i64 on] 23)
          have HB22 := Lib.hid (HB21.out.trans (hk.mono HB21.out.size))
          clear hb hk HG21 HH21 HP21 HR21 HS21 HB21
          have go0 := HG22.out.c 0 _ rfl
          have go1 := HG22.out.c 1 _ rfl
          have so0 := HS22.out.c 0 _ rfl
          have so1 := HS22.out.c 1 _ rfl
          have to0 := HT22.out.c 0 _ rfl
          have to1 := HT22.out.c 1 _ rfl
          go_wp2_with fail
          go_roundw
          case rel => exact ⟨j + 1, by omega, by have h := HJ.out; subst h; go_num, Lib.hid HR22.out⟩
          case measure => have h := HJ.out; subst h; simp [intOf]; omega
      · obtain rfl : j = 16 := by omega
        clear hH
        have ho0 := HH20.out.c 0 _ rfl
        have ho1 := HH20.out.c 1 _ rfl
        go_wp2_with fail
        refine (HA1.out _ HB20.out H6.out).mono ?_
        rintro e w21 ⟨rfl, hb⟩
        clear ho0 ho1
        have hk := hb.alloc hb.size (Obj.cells #[.int .i64 y, .int .i64 z] 23)
        have HG21 := Lib.hid (HG20.out.keep hk)
        have HH21 := Lib.hid (HH20.out.keep hk)
        have HP21 := Lib.hid (HP20.out.keep hk)
        have HV21 := Lib.hid (row_fresh w21 #[.int .i64 y, .int .i64 z] 23)
        have HB21 := Lib.hid (HB20.out.trans (hk.mono HB20.out.size))
        clear hb hk HG20 HH20 HP20 HB20
        have ho0 := HH21.out.c 0 _ rfl
        have ho1 := HH21.out.c 1 _ rfl
        go_wp2_with fail
        refine (HA2.out _ _ _ HP21.out).mono ?_
        rintro e w22 ⟨rfl, hb⟩
        clear ho0 ho1
        have hk := hb.alloc hb.size (Obj.cells #[.int .i64 y, .int .i64 z] 23)
        have HG22 := Lib.hid (HG21.out.keep hk)
        have HH22 := Lib.hid (HH21.out.keep hk)
        have HV22 := Lib.hid (HV21.out.keep hk)
        have HW22 := Lib.hid (row_fresh w22 #[.int .i64 y, .int .i64 z] 23)
        have HB22 := Lib.hid (HB21.out.trans (hk.mono HB21.out.size))
        clear hb hk HG21 HH21 HP21 HV21 HB21
        have vo0 := HV22.out.c 0 _ rfl
        have vo1 := HV22.out.c 1 _ rfl
        have wo0 := HW22.out.c 0 _ rfl
        have wo1 := HW22.out.c 1 _ rfl
        go_wp2_with fail
        go_ret
        exact ⟨rfl, HB22.out⟩

set_option maxHeartbeats 4000000 in
set_option maxRecDepth 100000 in
theorem obeys_new (a : Option Addr) (cap : Nat) (xs : List WrD) (l vk vn c m : Int) (p g : Nat) (hp : p < 16) (hpl : l = (p : Int) + 1) (hg16 : g ≤ 16) (hz : ∀ j, 0 ≤ j → j < g → (bestS xs j).k = 0) (hh : g < 16 → (bestS xs g).k ≠ 0) (hu : ∀ c m, undV (bestS xs) 0 c m = valG (bestS xs) g c m) (hE : putE (bestS xs) l vk vn = 0) (hT : bestS (putL (bestS xs) l vk vn) = setS (bestS xs) p (putX (bestS xs) l vk vn)) (hgp : p ≤ g) (hx : vk ≠ 0) (w : World) (hin : InS w a xs.length 4 (flat wrL xs)) : Calls Try.prog 8 #[.slice a xs.length cap, .int .i64 l, .agg #[.int .i64 vk, .int .i64 vn], .agg #[.int .i64 c, .int .i64 m]] w fun e w' => e = .returned (.bool true) ∧ Below w.heap.size w w' := by
  obtain ⟨N, hN⟩ : ∃ N, N = xs.length := ⟨_, rfl⟩
  obtain ⟨Z, hZ⟩ : ∃ Z, decide (N ≤ 60) = Z := ⟨_, rfl⟩
  have HF := Lib.hid (few_ins a N cap Z hZ)
  have HZ := Lib.hid hZ
  have hpk : (putX (bestS xs) l vk vn).k = vk := rfl
  have hpn : (putX (bestS xs) l vk vn).n = vn := rfl
  obtain ⟨x, hxx⟩ : ∃ x, putX (bestS xs) l vk vn = x := ⟨_, rfl⟩
  rw [hxx] at hT hpk hpn
  obtain ⟨y, z, hyz⟩ := valG_is (bestS xs) g c m
  obtain ⟨X, hX⟩ : ∃ X : Int, X = (g : Int) + 1 := ⟨_, rfl⟩
  rw [← hX] at hyz
  obtain ⟨PL, hPL⟩ : ∃ L, putL (bestS xs) l vk vn = L := ⟨_, rfl⟩
  rw [hPL] at hT
  have hPL16 : PL.length ≤ 60 := by
    rw [← hPL]; unfold putL; rw [if_pos hE]
    exact Nat.le_trans (writes_len _) (by decide)
  have HP := Lib.hid (fun w1 (hb : Below w.heap.size w w1) h6 => put_ins a cap N xs hN l vk vn w1 h6 (hin.keep hb) PL hPL 0 hE)
  have HS1 := Lib.hid (fun (J : Int) (p : Nat) (hJ : J = (p : Int) + 1) (hp : p < 16) w1 (hb : Below w.heap.size w w1) h6 => slot_at a cap N xs hN J p hJ hp w1 h6 (hin.keep hb))
  have HS2 := Lib.hid (fun b cp (J : Int) (p : Nat) (hJ : J = (p : Int) + 1) (hp : p < 16) w1 hi => slot_at b cp PL.length PL rfl J p hJ hp w1 hPL16 hi)
  have HA1 := Lib.hid (fun w1 (hb : Below w.heap.size w w1) h6 => active_at a cap N xs hN c m _ ((hu c m).trans hyz) w1 h6 (hin.keep hb))
  have hv2 : undV (bestS PL) 0 c m = .tuple #[.int .i64 l, .agg #[.int .i64 vk, .int .i64 vn]] := by rw [hT]; exact (by have h := obey_new hp hgp hz (by rw [hpk]; exact hx) c m; rw [hpk, hpn, ← hpl] at h; exact h)
  have HA2 := Lib.hid (fun b cp w1 hi => active_at b cp PL.length PL rfl c m _ hv2 w1 hPL16 hi)
  have HTT := Lib.hid hT
  have HPK := Lib.hid hpk
  have HPN := Lib.hid hpn
  have HNUM := Lib.hid (And.intro hpl (And.intro hp hX))
  have h1 : ¬ X < l := by omega
  have h2 : (vk != 0) = true := by simpa using hx
  rw [← hN]
  clear hpk hpn hxx hyz hX hPL hPL16 hv2 hu hT hE hp hpl hz hh hg16 hgp hN hZ hin hx 
  have HAW := Lib.hid awake_yes
  obtain ⟨W, g0, g1, hW, hg0, hg1, R0, R1, B, sz⟩ := box2 w #[.int .i64 vk, .int .i64 vn] 23 #[.int .i64 c, .int .i64 m] 23
  have HG := Lib.hid R0
  have HH := Lib.hid R1
  have HB := Lib.hid B
  clear R0 R1 B sz
  go_enter Try.func8, Try.ntmps8
  go_wp2_with fail
  rw [← hW]
  try rw [← hg1]
  try rw [← hg0]
  clear hW hg0 hg1
  refine (HAW.out _).mono ?_
  rintro e w1 ⟨rfl, hb⟩
  have HG1 := Lib.hid (HG.out.keep hb)
  have HH1 := Lib.hid (HH.out.keep hb)
  have HB1 := Lib.hid (HB.out.trans (hb.mono HB.out.size))
  clear hb HAW HB HG HH
  go_wp2_with fail
  refine (HF.out _).mono ?_
  rintro e w2 ⟨rfl, hb⟩
  have HG2 := Lib.hid (HG1.out.keep hb)
  have HH2 := Lib.hid (HH1.out.keep hb)
  have HB2 := Lib.hid (HB1.out.trans (hb.mono HB1.out.size))
  clear hb HG1 HH1 HB1
  clear HF
  cases Z
  · go_wp2_with fail
    go_ret
    exact ⟨rfl, HB2.out⟩
  · have H6 := Lib.hid (show N ≤ 60 from of_decide_eq_true HZ.out)
    have go0 := HG2.out.c 0 _ rfl
    have go1 := HG2.out.c 1 _ rfl
    go_wp2_with fail
    refine (HP.out _ HB2.out H6.out).mono ?_
    rintro e w3 ⟨b3, c3, rfl, hi, hb⟩
    clear go0 go1
    have HG3 := Lib.hid (HG2.out.keep hb)
    have HH3 := Lib.hid (HH2.out.keep hb)
    have HP3 := Lib.hid hi
    have HB3 := Lib.hid (HB2.out.trans (hb.mono HB2.out.size))
    clear hb hi HG2 HH2 HB2
    obtain ⟨wA, hwA⟩ : ∃ x, x = w3 := ⟨_, rfl⟩
    rw [← hwA] at HP3 HB3 HG3 HH3 ⊢
    clear hwA HP
    go_wp2_with fail
    go_loopw [11] (fun i wr => ∃ j : Nat, j ≤ 16 ∧ i = .int .i64 ((j : Int) + 1) ∧ Hid (Below wA.heap.size wA wr)) (fun i _ => 17 - (intOf i).toNat)
    case atStart => exact ⟨0, by omega, rfl, Lib.hid (Below.refl _ _)⟩
    case round =>
      obtain ⟨j, hj, rfl, hH⟩ := hrel
      have HG20 := Lib.hid (HG3.out.keep hH.out)
      have HH20 := Lib.hid (HH3.out.keep hH.out)
      have HP20 := Lib.hid (HP3.out.keep hH.out)
      have HB20 := Lib.hid (HB3.out.trans (hH.out.mono HB3.out.size))
      by_cases hlt : j < 16
      · obtain ⟨J, hJ⟩ : ∃ J, J = (j : Int) + 1 := ⟨_, rfl⟩
        have hc1 := HS1.out J j hJ hlt
        have hc2' := fun b cp w1 hi => HS2.out b cp J j hJ hlt w1 hi
        obtain ⟨ok, hok⟩ : ∃ s, (bestS xs j).k = s := ⟨_, rfl⟩
        obtain ⟨on, hon⟩ : ∃ s, (bestS xs j).n = s := ⟨_, rfl⟩
        rw [hok, hon] at hc1
        have HC1 := Lib.hid hc1
        have hJ16 : J ≤ 16 := by omega
        have HJ := Lib.hid hJ
        have w2' : IntKind.i64.wrap (J + 1) = J + 1 := IntWalk.i64_in _ ⟨by omega, by omega⟩
        rw [← hJ]
        clear hc1 hJ
        by_cases he : j = p
        · have hJl2 : J = l := by have := HNUM.out.1; have := HJ.out; omega
          have hc2 := hc2' ; rw [HTT.out, show setS (bestS xs) p x j = x from by rw [he]; exact set_at _ _ _, HPK.out, HPN.out] at hc2
          subst hJl2
          have HC2 := Lib.hid hc2
          clear hc2 hc2' he hok hon
          have HR20 := Lib.hid hH.out
          clear hH
          go_wp2_with fail
          refine (HC1.out _ HB20.out H6.out).mono ?_
          rintro e w21 ⟨rfl, hb⟩
          have hk := hb.alloc hb.size (Obj.cells #[.int .i64 ok, .int .i64 on] 23)
          have HG21 := Lib.hid (HG20.out.keep hk)
          have HH21 := Lib.hid (HH20.out.keep hk)
          have HP21 := Lib.hid (HP20.out.keep hk)
          have HR21 := Lib.hid (HR20.out.trans (hk.mono HR20.out.size))
          have HS21 := Lib.hid (row_fresh w21 #[.int .i64 ok, .int .i64 on] 23)
          have HB21 := Lib.hid (HB20.out.trans (hk.mono HB20.out.size))
          clear hb hk HG20 HH20 HP20 HR20 HB20
          go_wp2_with fail
          refine (HC2.out _ _ _ HP21.out).mono ?_
          rintro e w22 ⟨rfl, hb⟩
          have hk := hb.alloc hb.size (Obj.cells #[.int .i64 vk, .int .i64 vn] 23)
          have HG22 := Lib.hid (HG21.out.keep hk)
          have HH22 := Lib.hid (HH21.out.keep hk)
          have HP22 := Lib.hid (HP21.out.keep hk)
          have HR22 := Lib.hid (HR21.out.trans (hk.mono HR21.out.size))
          have HS22 := Lib.hid (HS21.out.keep hk)
          have HT22 := Lib.hid (row_fresh w22 #[.int .i64 vk, .int .i64 vn] 23)
          have HB22 := Lib.hid (HB21.out.trans (hk.mono HB21.out.size))
          clear hb hk HG21 HH21 HP21 HR21 HS21 HB21
          have go0 := HG22.out.c 0 _ rfl
          have go1 := HG22.out.c 1 _ rfl
          have so0 := HS22.out.c 0 _ rfl
          have so1 := HS22.out.c 1 _ rfl
          have to0 := HT22.out.c 0 _ rfl
          have to1 := HT22.out.c 1 _ rfl
          go_wp2_with fail
          go_roundw
          case rel => exact ⟨j + 1, by omega, by have h := HJ.out; subst h; go_num, Lib.hid HR22.out⟩
          case measure => have h := HJ.out; subst h; simp [intOf]; omega
        · have hJl : (J == l) = false := by rw [beq_eq_false_iff_ne]; have := HNUM.out.1; have := HJ.out; omega
          have hJl2 : ¬ J = l := by have := HNUM.out.1; have := HJ.out; omega
          have hc2 := hc2' ; rw [HTT.out, show setS (bestS xs) p x j = bestS xs j from set_off he, hok, hon] at hc2
          have HC2 := Lib.hid hc2
          clear hc2 hc2' he hok hon
          have HR20 := Lib.hid hH.out
          clear hH
          go_wp2_with fail
          refine (HC1.out _ HB20.out H6.out).mono ?_
          rintro e w21 ⟨rfl, hb⟩
          have hk := hb.alloc hb.size (Obj.cells #[.int .i64 ok, .int .i64 on] 23)
          have HG21 := Lib.hid (HG20.out.keep hk)
          have HH21 := Lib.hid (HH20.out.keep hk)
          have HP21 := Lib.hid (HP20.out.keep hk)
          have HR21 := Lib.hid (HR20.out.trans (hk.mono HR20.out.size))
          have HS21 := Lib.hid (row_fresh w21 #[.int .i64 ok, .int .i64 on] 23)
          have HB21 := Lib.hid (HB20.out.trans (hk.mono HB20.out.size))
          clear hb hk HG20 HH20 HP20 HR20 HB20
          go_wp2_with fail
          refine (HC2.out _ _ _ HP21.out).mono ?_
          rintro e w22 ⟨rfl, hb⟩
          have hk := hb.alloc hb.size (Obj.cells #[.int .i64 ok, .int .i64 on] 23)
          have HG22 := Lib.hid (HG21.out.keep hk)
          have HH22 := Lib.hid (HH21.out.keep hk)
          have HP22 := Lib.hid (HP21.out.keep hk)
          have HR22 := Lib.hid (HR21.out.trans (hk.mono HR21.out.size))
          have HS22 := Lib.hid (HS21.out.keep hk)
          have HT22 := Lib.hid (row_fresh w22 #[.int .i64 ok, .int .i64 on] 23)
          have HB22 := Lib.hid (HB21.out.trans (hk.mono HB21.out.size))
          clear hb hk HG21 HH21 HP21 HR21 HS21 HB21
          have go0 := HG22.out.c 0 _ rfl
          have go1 := HG22.out.c 1 _ rfl
          have so0 := HS22.out.c 0 _ rfl
          have so1 := HS22.out.c 1 _ rfl
          have to0 := HT22.out.c 0 _ rfl
          have to1 := HT22.out.c 1 _ rfl
          go_wp2_with fail
          go_roundw
          case rel => exact ⟨j + 1, by omega, by have h := HJ.out; subst h; go_num, Lib.hid HR22.out⟩
          case measure => have h := HJ.out; subst h; simp [intOf]; omega
      · obtain rfl : j = 16 := by omega
        clear hH
        have ho0 := HH20.out.c 0 _ rfl
        have ho1 := HH20.out.c 1 _ rfl
        go_wp2_with fail
        refine (HA1.out _ HB20.out H6.out).mono ?_
        rintro e w21 ⟨rfl, hb⟩
        clear ho0 ho1
        have hk := hb.alloc hb.size (Obj.cells #[.int .i64 y, .int .i64 z] 23)
        have HG21 := Lib.hid (HG20.out.keep hk)
        have HH21 := Lib.hid (HH20.out.keep hk)
        have HP21 := Lib.hid (HP20.out.keep hk)
        have HV21 := Lib.hid (row_fresh w21 #[.int .i64 y, .int .i64 z] 23)
        have HB21 := Lib.hid (HB20.out.trans (hk.mono HB20.out.size))
        clear hb hk HG20 HH20 HP20 HB20
        have ho0 := HH21.out.c 0 _ rfl
        have ho1 := HH21.out.c 1 _ rfl
        go_wp2_with fail
        refine (HA2.out _ _ _ HP21.out).mono ?_
        rintro e w22 ⟨rfl, hb⟩
        clear ho0 ho1
        have hk := hb.alloc hb.size (Obj.cells #[.int .i64 vk, .int .i64 vn] 23)
        have HG22 := Lib.hid (HG21.out.keep hk)
        have HH22 := Lib.hid (HH21.out.keep hk)
        have HV22 := Lib.hid (HV21.out.keep hk)
        have HW22 := Lib.hid (row_fresh w22 #[.int .i64 vk, .int .i64 vn] 23)
        have HB22 := Lib.hid (HB21.out.trans (hk.mono HB21.out.size))
        clear hb hk HG21 HH21 HP21 HV21 HB21
        have go0 := HG22.out.c 0 _ rfl
        have go1 := HG22.out.c 1 _ rfl
        have wo0 := HW22.out.c 0 _ rfl
        have wo1 := HW22.out.c 1 _ rfl
        go_wp2_with fail
        go_ret
        exact ⟨rfl, HB22.out⟩

set_option maxHeartbeats 4000000 in
set_option maxRecDepth 100000 in
theorem obeys_high (a : Option Addr) (cap : Nat) (xs : List WrD) (l vk vn c m : Int) (p g : Nat) (hp : p < 16) (hpl : l = (p : Int) + 1) (hg16 : g ≤ 16) (hz : ∀ j, 0 ≤ j → j < g → (bestS xs j).k = 0) (hh : g < 16 → (bestS xs g).k ≠ 0) (hu : ∀ c m, undV (bestS xs) 0 c m = valG (bestS xs) g c m) (hE : putE (bestS xs) l vk vn = 0) (hT : bestS (putL (bestS xs) l vk vn) = setS (bestS xs) p (putX (bestS xs) l vk vn)) (hgp : p < g) (hx : vk = 0) (w : World) (hin : InS w a xs.length 4 (flat wrL xs)) : Calls Try.prog 8 #[.slice a xs.length cap, .int .i64 l, .agg #[.int .i64 vk, .int .i64 vn], .agg #[.int .i64 c, .int .i64 m]] w fun e w' => e = .returned (.bool true) ∧ Below w.heap.size w w' := by
  obtain ⟨N, hN⟩ : ∃ N, N = xs.length := ⟨_, rfl⟩
  obtain ⟨Z, hZ⟩ : ∃ Z, decide (N ≤ 60) = Z := ⟨_, rfl⟩
  have HF := Lib.hid (few_ins a N cap Z hZ)
  have HZ := Lib.hid hZ
  have hpk : (putX (bestS xs) l vk vn).k = vk := rfl
  have hpn : (putX (bestS xs) l vk vn).n = vn := rfl
  obtain ⟨x, hxx⟩ : ∃ x, putX (bestS xs) l vk vn = x := ⟨_, rfl⟩
  rw [hxx] at hT hpk hpn
  obtain ⟨y, z, hyz⟩ := valG_is (bestS xs) g c m
  obtain ⟨X, hX⟩ : ∃ X : Int, X = (g : Int) + 1 := ⟨_, rfl⟩
  rw [← hX] at hyz
  obtain ⟨PL, hPL⟩ : ∃ L, putL (bestS xs) l vk vn = L := ⟨_, rfl⟩
  rw [hPL] at hT
  have hPL16 : PL.length ≤ 60 := by
    rw [← hPL]; unfold putL; rw [if_pos hE]
    exact Nat.le_trans (writes_len _) (by decide)
  have HP := Lib.hid (fun w1 (hb : Below w.heap.size w w1) h6 => put_ins a cap N xs hN l vk vn w1 h6 (hin.keep hb) PL hPL 0 hE)
  have HS1 := Lib.hid (fun (J : Int) (p : Nat) (hJ : J = (p : Int) + 1) (hp : p < 16) w1 (hb : Below w.heap.size w w1) h6 => slot_at a cap N xs hN J p hJ hp w1 h6 (hin.keep hb))
  have HS2 := Lib.hid (fun b cp (J : Int) (p : Nat) (hJ : J = (p : Int) + 1) (hp : p < 16) w1 hi => slot_at b cp PL.length PL rfl J p hJ hp w1 hPL16 hi)
  have HA1 := Lib.hid (fun w1 (hb : Below w.heap.size w w1) h6 => active_at a cap N xs hN c m _ ((hu c m).trans hyz) w1 h6 (hin.keep hb))
  obtain ⟨uu, hu1, hu2, hu3, hu4, hu5⟩ := und_first (bestS xs) (p + 1) (by omega)
  obtain ⟨y3, z3, hyz3⟩ := valG_is (bestS xs) uu c m
  obtain ⟨X3, hX3⟩ : ∃ X : Int, X = (uu : Int) + 1 := ⟨_, rfl⟩
  rw [← hX3] at hyz3
  have hlv : lvB l = true := by unfold lvB; simp; omega
  have hun := undW_ok (S := bestS xs) (l := l) (c := c) (m := m) (.inr hlv) (by rw [show l.toNat = p + 1 by omega]; exact (hu5 c m).trans hyz3)
  have c5 := fun w1 (hb : Below w.heap.size w w1) (h6 : N ≤ 60) => punder_any a cap xs l c m w1 (by omega) (hin.keep hb)
  rw [hun, ← hN] at c5
  have HU := Lib.hid c5
  clear c5 hun hlv
  have hv2 : undV (bestS PL) 0 c m = .tuple #[.int .i64 X, .agg #[.int .i64 y, .int .i64 z]] := by rw [hT]; exact (obey_high hgp hg16 hz hh (by rw [hpk]; exact hx) c m).trans hyz
  have HA2 := Lib.hid (fun b cp w1 hi => active_at b cp PL.length PL rfl c m _ hv2 w1 hPL16 hi)
  have HTT := Lib.hid hT
  have HPK := Lib.hid hpk
  have HPN := Lib.hid hpn
  have HNUM := Lib.hid (And.intro hpl (And.intro hp hX))
  have h1 : ¬ X < l := by omega
  have h3 : l < X := by omega
  subst hx
  rw [← hN]
  clear hpk hpn hxx hyz hX hPL hPL16 hv2 hu hT hE hp hpl hz hh hg16 hgp hN hZ hin hu1 hu2 hu3 hu4 hu5 hyz3 hX3 
  have HAW := Lib.hid awake_yes
  obtain ⟨W, g0, g1, hW, hg0, hg1, R0, R1, B, sz⟩ := box2 w #[.int .i64 0, .int .i64 vn] 23 #[.int .i64 c, .int .i64 m] 23
  have HG := Lib.hid R0
  have HH := Lib.hid R1
  have HB := Lib.hid B
  clear R0 R1 B sz
  go_enter Try.func8, Try.ntmps8
  go_wp2_with fail
  rw [← hW]
  try rw [← hg1]
  try rw [← hg0]
  clear hW hg0 hg1
  refine (HAW.out _).mono ?_
  rintro e w1 ⟨rfl, hb⟩
  have HG1 := Lib.hid (HG.out.keep hb)
  have HH1 := Lib.hid (HH.out.keep hb)
  have HB1 := Lib.hid (HB.out.trans (hb.mono HB.out.size))
  clear hb HAW HB HG HH
  go_wp2_with fail
  refine (HF.out _).mono ?_
  rintro e w2 ⟨rfl, hb⟩
  have HG2 := Lib.hid (HG1.out.keep hb)
  have HH2 := Lib.hid (HH1.out.keep hb)
  have HB2 := Lib.hid (HB1.out.trans (hb.mono HB1.out.size))
  clear hb HG1 HH1 HB1
  clear HF
  cases Z
  · go_wp2_with fail
    go_ret
    exact ⟨rfl, HB2.out⟩
  · have H6 := Lib.hid (show N ≤ 60 from of_decide_eq_true HZ.out)
    have go0 := HG2.out.c 0 _ rfl
    have go1 := HG2.out.c 1 _ rfl
    go_wp2_with fail
    refine (HP.out _ HB2.out H6.out).mono ?_
    rintro e w3 ⟨b3, c3, rfl, hi, hb⟩
    clear go0 go1
    have HG3 := Lib.hid (HG2.out.keep hb)
    have HH3 := Lib.hid (HH2.out.keep hb)
    have HP3 := Lib.hid hi
    have HB3 := Lib.hid (HB2.out.trans (hb.mono HB2.out.size))
    clear hb hi HG2 HH2 HB2
    obtain ⟨wA, hwA⟩ : ∃ x, x = w3 := ⟨_, rfl⟩
    rw [← hwA] at HP3 HB3 HG3 HH3 ⊢
    clear hwA HP
    go_wp2_with fail
    go_loopw [11] (fun i wr => ∃ j : Nat, j ≤ 16 ∧ i = .int .i64 ((j : Int) + 1) ∧ Hid (Below wA.heap.size wA wr)) (fun i _ => 17 - (intOf i).toNat)
    case atStart => exact ⟨0, by omega, rfl, Lib.hid (Below.refl _ _)⟩
    case round =>
      obtain ⟨j, hj, rfl, hH⟩ := hrel
      have HG20 := Lib.hid (HG3.out.keep hH.out)
      have HH20 := Lib.hid (HH3.out.keep hH.out)
      have HP20 := Lib.hid (HP3.out.keep hH.out)
      have HB20 := Lib.hid (HB3.out.trans (hH.out.mono HB3.out.size))
      by_cases hlt : j < 16
      · obtain ⟨J, hJ⟩ : ∃ J, J = (j : Int) + 1 := ⟨_, rfl⟩
        have hc1 := HS1.out J j hJ hlt
        have hc2' := fun b cp w1 hi => HS2.out b cp J j hJ hlt w1 hi
        obtain ⟨ok, hok⟩ : ∃ s, (bestS xs j).k = s := ⟨_, rfl⟩
        obtain ⟨on, hon⟩ : ∃ s, (bestS xs j).n = s := ⟨_, rfl⟩
        rw [hok, hon] at hc1
        have HC1 := Lib.hid hc1
        have hJ16 : J ≤ 16 := by omega
        have HJ := Lib.hid hJ
        have w2' : IntKind.i64.wrap (J + 1) = J + 1 := IntWalk.i64_in _ ⟨by omega, by omega⟩
        rw [← hJ]
        clear hc1 hJ
        by_cases he : j = p
        · have hJl2 : J = l := by have := HNUM.out.1; have := HJ.out; omega
          have hc2 := hc2' ; rw [HTT.out, show setS (bestS xs) p x j = x from by rw [he]; exact set_at _ _ _, HPK.out, HPN.out] at hc2
          subst hJl2
          have HC2 := Lib.hid hc2
          clear hc2 hc2' he hok hon
          have HR20 := Lib.hid hH.out
          clear hH
          go_wp2_with fail
          refine (HC1.out _ HB20.out H6.out).mono ?_
          rintro e w21 ⟨rfl, hb⟩
          have hk := hb.alloc hb.size (Obj.cells #[.int .i64 ok, .int .i64 on] 23)
          have HG21 := Lib.hid (HG20.out.keep hk)
          have HH21 := Lib.hid (HH20.out.keep hk)
          have HP21 := Lib.hid (HP20.out.keep hk)
          have HR21 := Lib.hid (HR20.out.trans (hk.mono HR20.out.size))
          have HS21 := Lib.hid (row_fresh w21 #[.int .i64 ok, .int .i64 on] 23)
          have HB21 := Lib.hid (HB20.out.trans (hk.mono HB20.out.size))
          clear hb hk HG20 HH20 HP20 HR20 HB20
          go_wp2_with fail
          refine (HC2.out _ _ _ HP21.out).mono ?_
          rintro e w22 ⟨rfl, hb⟩
          have hk := hb.alloc hb.size (Obj.cells #[.int .i64 0, .int .i64 vn] 23)
          have HG22 := Lib.hid (HG21.out.keep hk)
          have HH22 := Lib.hid (HH21.out.keep hk)
          have HP22 := Lib.hid (HP21.out.keep hk)
          have HR22 := Lib.hid (HR21.out.trans (hk.mono HR21.out.size))
          have HS22 := Lib.hid (HS21.out.keep hk)
          have HT22 := Lib.hid (row_fresh w22 #[.int .i64 0, .int .i64 vn] 23)
          have HB22 := Lib.hid (HB21.out.trans (hk.mono HB21.out.size))
          clear hb hk HG21 HH21 HP21 HR21 HS21 HB21
          have go0 := HG22.out.c 0 _ rfl
          have go1 := HG22.out.c 1 _ rfl
          have so0 := HS22.out.c 0 _ rfl
          have so1 := HS22.out.c 1 _ rfl
          have to0 := HT22.out.c 0 _ rfl
          have to1 := HT22.out.c 1 _ rfl
          go_wp2_with fail
          go_roundw
          case rel => exact ⟨j + 1, by omega, by have h := HJ.out; subst h; go_num, Lib.hid HR22.out⟩
          case measure => have h := HJ.out; subst h; simp [intOf]; omega
        · have hJl : (J == l) = false := by rw [beq_eq_false_iff_ne]; have := HNUM.out.1; have := HJ.out; omega
          have hJl2 : ¬ J = l := by have := HNUM.out.1; have := HJ.out; omega
          have hc2 := hc2' ; rw [HTT.out, show setS (bestS xs) p x j = bestS xs j from set_off he, hok, hon] at hc2
          have HC2 := Lib.hid hc2
          clear hc2 hc2' he hok hon
          have HR20 := Lib.hid hH.out
          clear hH
          go_wp2_with fail
          refine (HC1.out _ HB20.out H6.out).mono ?_
          rintro e w21 ⟨rfl, hb⟩
          have hk := hb.alloc hb.size (Obj.cells #[.int .i64 ok, .int .i64 on] 23)
          have HG21 := Lib.hid (HG20.out.keep hk)
          have HH21 := Lib.hid (HH20.out.keep hk)
          have HP21 := Lib.hid (HP20.out.keep hk)
          have HR21 := Lib.hid (HR20.out.trans (hk.mono HR20.out.size))
          have HS21 := Lib.hid (row_fresh w21 #[.int .i64 ok, .int .i64 on] 23)
          have HB21 := Lib.hid (HB20.out.trans (hk.mono HB20.out.size))
          clear hb hk HG20 HH20 HP20 HR20 HB20
          go_wp2_with fail
          refine (HC2.out _ _ _ HP21.out).mono ?_
          rintro e w22 ⟨rfl, hb⟩
          have hk := hb.alloc hb.size (Obj.cells #[.int .i64 ok, .int .i64 on] 23)
          have HG22 := Lib.hid (HG21.out.keep hk)
          have HH22 := Lib.hid (HH21.out.keep hk)
          have HP22 := Lib.hid (HP21.out.keep hk)
          have HR22 := Lib.hid (HR21.out.trans (hk.mono HR21.out.size))
          have HS22 := Lib.hid (HS21.out.keep hk)
          have HT22 := Lib.hid (row_fresh w22 #[.int .i64 ok, .int .i64 on] 23)
          have HB22 := Lib.hid (HB21.out.trans (hk.mono HB21.out.size))
          clear hb hk HG21 HH21 HP21 HR21 HS21 HB21
          have go0 := HG22.out.c 0 _ rfl
          have go1 := HG22.out.c 1 _ rfl
          have so0 := HS22.out.c 0 _ rfl
          have so1 := HS22.out.c 1 _ rfl
          have to0 := HT22.out.c 0 _ rfl
          have to1 := HT22.out.c 1 _ rfl
          go_wp2_with fail
          go_roundw
          case rel => exact ⟨j + 1, by omega, by have h := HJ.out; subst h; go_num, Lib.hid HR22.out⟩
          case measure => have h := HJ.out; subst h; simp [intOf]; omega
      · obtain rfl : j = 16 := by omega
        clear hH
        have ho0 := HH20.out.c 0 _ rfl
        have ho1 := HH20.out.c 1 _ rfl
        go_wp2_with fail
        refine (HA1.out _ HB20.out H6.out).mono ?_
        rintro e w21 ⟨rfl, hb⟩
        clear ho0 ho1
        have hk := hb.alloc hb.size (Obj.cells #[.int .i64 y, .int .i64 z] 23)
        have HG21 := Lib.hid (HG20.out.keep hk)
        have HH21 := Lib.hid (HH20.out.keep hk)
        have HP21 := Lib.hid (HP20.out.keep hk)
        have HV21 := Lib.hid (row_fresh w21 #[.int .i64 y, .int .i64 z] 23)
        have HB21 := Lib.hid (HB20.out.trans (hk.mono HB20.out.size))
        clear hb hk HG20 HH20 HP20 HB20
        have ho0 := HH21.out.c 0 _ rfl
        have ho1 := HH21.out.c 1 _ rfl
        go_wp2_with fail
        refine (HA2.out _ _ _ HP21.out).mono ?_
        rintro e w22 ⟨rfl, hb⟩
        clear ho0 ho1
        have hk := hb.alloc hb.size (Obj.cells #[.int .i64 y, .int .i64 z] 23)
        have HG22 := Lib.hid (HG21.out.keep hk)
        have HH22 := Lib.hid (HH21.out.keep hk)
        have HV22 := Lib.hid (HV21.out.keep hk)
        have HW22 := Lib.hid (row_fresh w22 #[.int .i64 y, .int .i64 z] 23)
        have HB22 := Lib.hid (HB21.out.trans (hk.mono HB21.out.size))
        clear hb hk HG21 HH21 HP21 HV21 HB21
        have ho0 := HH22.out.c 0 _ rfl
        have ho1 := HH22.out.c 1 _ rfl
        have go0 := HG22.out.c 0 _ rfl
        have go1 := HG22.out.c 1 _ rfl
        go_wp2_with fail
        refine (HU.out _ HB22.out H6.out).mono ?_
        rintro e w23 ⟨rfl, hb⟩
        clear ho0 ho1
        clear go0 go1
        have hk := hb.alloc hb.size (Obj.cells #[.int .i64 y3, .int .i64 z3] 23)
        have HV23 := Lib.hid (HV22.out.keep hk)
        have HW23 := Lib.hid (HW22.out.keep hk)
        have HU23 := Lib.hid (row_fresh w23 #[.int .i64 y3, .int .i64 z3] 23)
        have HB23 := Lib.hid (HB22.out.trans (hk.mono HB22.out.size))
        clear hb hk HG22 HH22 HV22 HW22 HB22
        have vo0 := HV23.out.c 0 _ rfl
        have vo1 := HV23.out.c 1 _ rfl
        have wo0 := HW23.out.c 0 _ rfl
        have wo1 := HW23.out.c 1 _ rfl
        have uo0 := HU23.out.c 0 _ rfl
        have uo1 := HU23.out.c 1 _ rfl
        go_wp2_with fail
        go_ret
        exact ⟨rfl, HB23.out⟩

set_option maxHeartbeats 4000000 in
set_option maxRecDepth 100000 in
theorem obeys_free (a : Option Addr) (cap : Nat) (xs : List WrD) (l vk vn c m : Int) (p g : Nat) (hp : p < 16) (hpl : l = (p : Int) + 1) (hg16 : g ≤ 16) (hz : ∀ j, 0 ≤ j → j < g → (bestS xs j).k = 0) (hh : g < 16 → (bestS xs g).k ≠ 0) (hu : ∀ c m, undV (bestS xs) 0 c m = valG (bestS xs) g c m) (hE : putE (bestS xs) l vk vn = 0) (hT : bestS (putL (bestS xs) l vk vn) = setS (bestS xs) p (putX (bestS xs) l vk vn)) (hgp : p = g) (hx : vk = 0) (w : World) (hin : InS w a xs.length 4 (flat wrL xs)) : Calls Try.prog 8 #[.slice a xs.length cap, .int .i64 l, .agg #[.int .i64 vk, .int .i64 vn], .agg #[.int .i64 c, .int .i64 m]] w fun e w' => e = .returned (.bool true) ∧ Below w.heap.size w w' := by
  obtain ⟨N, hN⟩ : ∃ N, N = xs.length := ⟨_, rfl⟩
  obtain ⟨Z, hZ⟩ : ∃ Z, decide (N ≤ 60) = Z := ⟨_, rfl⟩
  have HF := Lib.hid (few_ins a N cap Z hZ)
  have HZ := Lib.hid hZ
  have hpk : (putX (bestS xs) l vk vn).k = vk := rfl
  have hpn : (putX (bestS xs) l vk vn).n = vn := rfl
  obtain ⟨x, hxx⟩ : ∃ x, putX (bestS xs) l vk vn = x := ⟨_, rfl⟩
  rw [hxx] at hT hpk hpn
  obtain ⟨y, z, hyz⟩ := valG_is (bestS xs) g c m
  obtain ⟨X, hX⟩ : ∃ X : Int, X = (g : Int) + 1 := ⟨_, rfl⟩
  rw [← hX] at hyz
  obtain ⟨PL, hPL⟩ : ∃ L, putL (bestS xs) l vk vn = L := ⟨_, rfl⟩
  rw [hPL] at hT
  have hPL16 : PL.length ≤ 60 := by
    rw [← hPL]; unfold putL; rw [if_pos hE]
    exact Nat.le_trans (writes_len _) (by decide)
  have HP := Lib.hid (fun w1 (hb : Below w.heap.size w w1) h6 => put_ins a cap N xs hN l vk vn w1 h6 (hin.keep hb) PL hPL 0 hE)
  have HS1 := Lib.hid (fun (J : Int) (p : Nat) (hJ : J = (p : Int) + 1) (hp : p < 16) w1 (hb : Below w.heap.size w w1) h6 => slot_at a cap N xs hN J p hJ hp w1 h6 (hin.keep hb))
  have HS2 := Lib.hid (fun b cp (J : Int) (p : Nat) (hJ : J = (p : Int) + 1) (hp : p < 16) w1 hi => slot_at b cp PL.length PL rfl J p hJ hp w1 hPL16 hi)
  have HA1 := Lib.hid (fun w1 (hb : Below w.heap.size w w1) h6 => active_at a cap N xs hN c m _ ((hu c m).trans hyz) w1 h6 (hin.keep hb))
  obtain ⟨uu, hu1, hu2, hu3, hu4, hu5⟩ := und_first (bestS xs) (p + 1) (by omega)
  obtain ⟨y3, z3, hyz3⟩ := valG_is (bestS xs) uu c m
  obtain ⟨X3, hX3⟩ : ∃ X : Int, X = (uu : Int) + 1 := ⟨_, rfl⟩
  rw [← hX3] at hyz3
  have hlv : lvB l = true := by unfold lvB; simp; omega
  have hun := undW_ok (S := bestS xs) (l := l) (c := c) (m := m) (.inr hlv) (by rw [show l.toNat = p + 1 by omega]; exact (hu5 c m).trans hyz3)
  have c5 := fun w1 (hb : Below w.heap.size w w1) (h6 : N ≤ 60) => punder_any a cap xs l c m w1 (by omega) (hin.keep hb)
  rw [hun, ← hN] at c5
  have HU := Lib.hid c5
  clear c5 hun hlv
  have hv2 : undV (bestS PL) 0 c m = .tuple #[.int .i64 X3, .agg #[.int .i64 y3, .int .i64 z3]] := by rw [hT]; exact (obey_free hu1 hu2 (by rw [hgp]; exact hz) hu3 hu4 (by rw [hpk]; exact hx) c m).trans hyz3
  have HA2 := Lib.hid (fun b cp w1 hi => active_at b cp PL.length PL rfl c m _ hv2 w1 hPL16 hi)
  have HTT := Lib.hid hT
  have HPK := Lib.hid hpk
  have HPN := Lib.hid hpn
  have HNUM := Lib.hid (And.intro hpl (And.intro hp hX))
  have h1 : ¬ X < l := by omega
  have h3 : ¬ l < X := by omega
  subst hx
  rw [← hN]
  clear hpk hpn hxx hyz hX hPL hPL16 hv2 hu hT hE hp hpl hz hh hg16 hgp hN hZ hin hu1 hu2 hu3 hu4 hu5 hyz3 hX3 
  have HAW := Lib.hid awake_yes
  obtain ⟨W, g0, g1, hW, hg0, hg1, R0, R1, B, sz⟩ := box2 w #[.int .i64 0, .int .i64 vn] 23 #[.int .i64 c, .int .i64 m] 23
  have HG := Lib.hid R0
  have HH := Lib.hid R1
  have HB := Lib.hid B
  clear R0 R1 B sz
  go_enter Try.func8, Try.ntmps8
  go_wp2_with fail
  rw [← hW]
  try rw [← hg1]
  try rw [← hg0]
  clear hW hg0 hg1
  refine (HAW.out _).mono ?_
  rintro e w1 ⟨rfl, hb⟩
  have HG1 := Lib.hid (HG.out.keep hb)
  have HH1 := Lib.hid (HH.out.keep hb)
  have HB1 := Lib.hid (HB.out.trans (hb.mono HB.out.size))
  clear hb HAW HB HG HH
  go_wp2_with fail
  refine (HF.out _).mono ?_
  rintro e w2 ⟨rfl, hb⟩
  have HG2 := Lib.hid (HG1.out.keep hb)
  have HH2 := Lib.hid (HH1.out.keep hb)
  have HB2 := Lib.hid (HB1.out.trans (hb.mono HB1.out.size))
  clear hb HG1 HH1 HB1
  clear HF
  cases Z
  · go_wp2_with fail
    go_ret
    exact ⟨rfl, HB2.out⟩
  · have H6 := Lib.hid (show N ≤ 60 from of_decide_eq_true HZ.out)
    have go0 := HG2.out.c 0 _ rfl
    have go1 := HG2.out.c 1 _ rfl
    go_wp2_with fail
    refine (HP.out _ HB2.out H6.out).mono ?_
    rintro e w3 ⟨b3, c3, rfl, hi, hb⟩
    clear go0 go1
    have HG3 := Lib.hid (HG2.out.keep hb)
    have HH3 := Lib.hid (HH2.out.keep hb)
    have HP3 := Lib.hid hi
    have HB3 := Lib.hid (HB2.out.trans (hb.mono HB2.out.size))
    clear hb hi HG2 HH2 HB2
    obtain ⟨wA, hwA⟩ : ∃ x, x = w3 := ⟨_, rfl⟩
    rw [← hwA] at HP3 HB3 HG3 HH3 ⊢
    clear hwA HP
    go_wp2_with fail
    go_loopw [11] (fun i wr => ∃ j : Nat, j ≤ 16 ∧ i = .int .i64 ((j : Int) + 1) ∧ Hid (Below wA.heap.size wA wr)) (fun i _ => 17 - (intOf i).toNat)
    case atStart => exact ⟨0, by omega, rfl, Lib.hid (Below.refl _ _)⟩
    case round =>
      obtain ⟨j, hj, rfl, hH⟩ := hrel
      have HG20 := Lib.hid (HG3.out.keep hH.out)
      have HH20 := Lib.hid (HH3.out.keep hH.out)
      have HP20 := Lib.hid (HP3.out.keep hH.out)
      have HB20 := Lib.hid (HB3.out.trans (hH.out.mono HB3.out.size))
      by_cases hlt : j < 16
      · obtain ⟨J, hJ⟩ : ∃ J, J = (j : Int) + 1 := ⟨_, rfl⟩
        have hc1 := HS1.out J j hJ hlt
        have hc2' := fun b cp w1 hi => HS2.out b cp J j hJ hlt w1 hi
        obtain ⟨ok, hok⟩ : ∃ s, (bestS xs j).k = s := ⟨_, rfl⟩
        obtain ⟨on, hon⟩ : ∃ s, (bestS xs j).n = s := ⟨_, rfl⟩
        rw [hok, hon] at hc1
        have HC1 := Lib.hid hc1
        have hJ16 : J ≤ 16 := by omega
        have HJ := Lib.hid hJ
        have w2' : IntKind.i64.wrap (J + 1) = J + 1 := IntWalk.i64_in _ ⟨by omega, by omega⟩
        rw [← hJ]
        clear hc1 hJ
        by_cases he : j = p
        · have hJl2 : J = l := by have := HNUM.out.1; have := HJ.out; omega
          have hc2 := hc2' ; rw [HTT.out, show setS (bestS xs) p x j = x from by rw [he]; exact set_at _ _ _, HPK.out, HPN.out] at hc2
          subst hJl2
          have HC2 := Lib.hid hc2
          clear hc2 hc2' he hok hon
          have HR20 := Lib.hid hH.out
          clear hH
          go_wp2_with fail
          refine (HC1.out _ HB20.out H6.out).mono ?_
          rintro e w21 ⟨rfl, hb⟩
          have hk := hb.alloc hb.size (Obj.cells #[.int .i64 ok, .int .i64 on] 23)
          have HG21 := Lib.hid (HG20.out.keep hk)
          have HH21 := Lib.hid (HH20.out.keep hk)
          have HP21 := Lib.hid (HP20.out.keep hk)
          have HR21 := Lib.hid (HR20.out.trans (hk.mono HR20.out.size))
          have HS21 := Lib.hid (row_fresh w21 #[.int .i64 ok, .int .i64 on] 23)
          have HB21 := Lib.hid (HB20.out.trans (hk.mono HB20.out.size))
          clear hb hk HG20 HH20 HP20 HR20 HB20
          go_wp2_with fail
          refine (HC2.out _ _ _ HP21.out).mono ?_
          rintro e w22 ⟨rfl, hb⟩
          have hk := hb.alloc hb.size (Obj.cells #[.int .i64 0, .int .i64 vn] 23)
          have HG22 := Lib.hid (HG21.out.keep hk)
          have HH22 := Lib.hid (HH21.out.keep hk)
          have HP22 := Lib.hid (HP21.out.keep hk)
          have HR22 := Lib.hid (HR21.out.trans (hk.mono HR21.out.size))
          have HS22 := Lib.hid (HS21.out.keep hk)
          have HT22 := Lib.hid (row_fresh w22 #[.int .i64 0, .int .i64 vn] 23)
          have HB22 := Lib.hid (HB21.out.trans (hk.mono HB21.out.size))
          clear hb hk HG21 HH21 HP21 HR21 HS21 HB21
          have go0 := HG22.out.c 0 _ rfl
          have go1 := HG22.out.c 1 _ rfl
          have so0 := HS22.out.c 0 _ rfl
          have so1 := HS22.out.c 1 _ rfl
          have to0 := HT22.out.c 0 _ rfl
          have to1 := HT22.out.c 1 _ rfl
          go_wp2_with fail
          go_roundw
          case rel => exact ⟨j + 1, by omega, by have h := HJ.out; subst h; go_num, Lib.hid HR22.out⟩
          case measure => have h := HJ.out; subst h; simp [intOf]; omega
        · have hJl : (J == l) = false := by rw [beq_eq_false_iff_ne]; have := HNUM.out.1; have := HJ.out; omega
          have hJl2 : ¬ J = l := by have := HNUM.out.1; have := HJ.out; omega
          have hc2 := hc2' ; rw [HTT.out, show setS (bestS xs) p x j = bestS xs j from set_off he, hok, hon] at hc2
          have HC2 := Lib.hid hc2
          clear hc2 hc2' he hok hon
          have HR20 := Lib.hid hH.out
          clear hH
          go_wp2_with fail
          refine (HC1.out _ HB20.out H6.out).mono ?_
          rintro e w21 ⟨rfl, hb⟩
          have hk := hb.alloc hb.size (Obj.cells #[.int .i64 ok, .int .i64 on] 23)
          have HG21 := Lib.hid (HG20.out.keep hk)
          have HH21 := Lib.hid (HH20.out.keep hk)
          have HP21 := Lib.hid (HP20.out.keep hk)
          have HR21 := Lib.hid (HR20.out.trans (hk.mono HR20.out.size))
          have HS21 := Lib.hid (row_fresh w21 #[.int .i64 ok, .int .i64 on] 23)
          have HB21 := Lib.hid (HB20.out.trans (hk.mono HB20.out.size))
          clear hb hk HG20 HH20 HP20 HR20 HB20
          go_wp2_with fail
          refine (HC2.out _ _ _ HP21.out).mono ?_
          rintro e w22 ⟨rfl, hb⟩
          have hk := hb.alloc hb.size (Obj.cells #[.int .i64 ok, .int .i64 on] 23)
          have HG22 := Lib.hid (HG21.out.keep hk)
          have HH22 := Lib.hid (HH21.out.keep hk)
          have HP22 := Lib.hid (HP21.out.keep hk)
          have HR22 := Lib.hid (HR21.out.trans (hk.mono HR21.out.size))
          have HS22 := Lib.hid (HS21.out.keep hk)
          have HT22 := Lib.hid (row_fresh w22 #[.int .i64 ok, .int .i64 on] 23)
          have HB22 := Lib.hid (HB21.out.trans (hk.mono HB21.out.size))
          clear hb hk HG21 HH21 HP21 HR21 HS21 HB21
          have go0 := HG22.out.c 0 _ rfl
          have go1 := HG22.out.c 1 _ rfl
          have so0 := HS22.out.c 0 _ rfl
          have so1 := HS22.out.c 1 _ rfl
          have to0 := HT22.out.c 0 _ rfl
          have to1 := HT22.out.c 1 _ rfl
          go_wp2_with fail
          go_roundw
          case rel => exact ⟨j + 1, by omega, by have h := HJ.out; subst h; go_num, Lib.hid HR22.out⟩
          case measure => have h := HJ.out; subst h; simp [intOf]; omega
      · obtain rfl : j = 16 := by omega
        clear hH
        have ho0 := HH20.out.c 0 _ rfl
        have ho1 := HH20.out.c 1 _ rfl
        go_wp2_with fail
        refine (HA1.out _ HB20.out H6.out).mono ?_
        rintro e w21 ⟨rfl, hb⟩
        clear ho0 ho1
        have hk := hb.alloc hb.size (Obj.cells #[.int .i64 y, .int .i64 z] 23)
        have HG21 := Lib.hid (HG20.out.keep hk)
        have HH21 := Lib.hid (HH20.out.keep hk)
        have HP21 := Lib.hid (HP20.out.keep hk)
        have HV21 := Lib.hid (row_fresh w21 #[.int .i64 y, .int .i64 z] 23)
        have HB21 := Lib.hid (HB20.out.trans (hk.mono HB20.out.size))
        clear hb hk HG20 HH20 HP20 HB20
        have ho0 := HH21.out.c 0 _ rfl
        have ho1 := HH21.out.c 1 _ rfl
        go_wp2_with fail
        refine (HA2.out _ _ _ HP21.out).mono ?_
        rintro e w22 ⟨rfl, hb⟩
        clear ho0 ho1
        have hk := hb.alloc hb.size (Obj.cells #[.int .i64 y3, .int .i64 z3] 23)
        have HG22 := Lib.hid (HG21.out.keep hk)
        have HH22 := Lib.hid (HH21.out.keep hk)
        have HV22 := Lib.hid (HV21.out.keep hk)
        have HW22 := Lib.hid (row_fresh w22 #[.int .i64 y3, .int .i64 z3] 23)
        have HB22 := Lib.hid (HB21.out.trans (hk.mono HB21.out.size))
        clear hb hk HG21 HH21 HP21 HV21 HB21
        have ho0 := HH22.out.c 0 _ rfl
        have ho1 := HH22.out.c 1 _ rfl
        have go0 := HG22.out.c 0 _ rfl
        have go1 := HG22.out.c 1 _ rfl
        go_wp2_with fail
        refine (HU.out _ HB22.out H6.out).mono ?_
        rintro e w23 ⟨rfl, hb⟩
        clear ho0 ho1
        clear go0 go1
        have hk := hb.alloc hb.size (Obj.cells #[.int .i64 y3, .int .i64 z3] 23)
        have HV23 := Lib.hid (HV22.out.keep hk)
        have HW23 := Lib.hid (HW22.out.keep hk)
        have HU23 := Lib.hid (row_fresh w23 #[.int .i64 y3, .int .i64 z3] 23)
        have HB23 := Lib.hid (HB22.out.trans (hk.mono HB22.out.size))
        clear hb hk HG22 HH22 HV22 HW22 HB22
        have vo0 := HV23.out.c 0 _ rfl
        have vo1 := HV23.out.c 1 _ rfl
        have wo0 := HW23.out.c 0 _ rfl
        have wo1 := HW23.out.c 1 _ rfl
        have uo0 := HU23.out.c 0 _ rfl
        have uo1 := HU23.out.c 1 _ rfl
        go_wp2_with fail
        go_ret
        exact ⟨rfl, HB23.out⟩
theorem obeys_law (a : Option Addr) (cap : Nat) (xs : List WrD) (l vk vn c m : Int) (w : World) (hin : InS w a xs.length 4 (flat wrL xs)) : Calls Try.prog 8 #[.slice a xs.length cap, .int .i64 l, .agg #[.int .i64 vk, .int .i64 vn], .agg #[.int .i64 c, .int .i64 m]] w fun e w' => e = .returned (.bool true) ∧ Below w.heap.size w w' := by
  by_cases hE : putE (bestS xs) l vk vn = 0
  · obtain ⟨p, hp, hpl, _, hT⟩ := put_all xs l vk vn hE
    obtain ⟨g, _, hg16, hz, hh, hu⟩ := und_first (bestS xs) 0 (by omega)
    by_cases h1 : g < p
    · exact obeys_low a cap xs l vk vn c m p g hp hpl hg16 hz hh hu hE hT h1 w hin
    by_cases h2 : vk = 0
    · by_cases h3 : p < g
      · exact obeys_high a cap xs l vk vn c m p g hp hpl hg16 hz hh hu hE hT h3 h2 w hin
      · exact obeys_free a cap xs l vk vn c m p g hp hpl hg16 hz hh hu hE hT (by omega) h2 w hin
    · exact obeys_new a cap xs l vk vn c m p g hp hpl hg16 hz hh hu hE hT (by omega) h2 w hin
  · exact obeys_err a cap xs l vk vn c m hE w hin
end Go.Proofs.Ytlmilalibgehpaa
