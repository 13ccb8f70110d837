/- Requests and states in lists. Contracts of Fits and Same. -/
import Derived.Test.YtlmcdnfihgimjaaD
import Derived.Test.YtlmcdnfihgimjaaSl
import Derived.BigQuiet
namespace Go.Proofs.Ytlmcdnfihgimjaa
open Go.RowKit

structure AskD where
  t : Int
  lv : Int
  k : Int
  n : Int
structure DrD where
  k : Int
  n : Int
  c : Int
deriving DecidableEq
def askL (a : AskD) : List Value := [.int .i64 a.t, .int .i64 a.lv, .int .i64 a.k, .int .i64 a.n]
def drL (s : DrD) : List Value := [.int .i64 s.k, .int .i64 s.n, .int .i64 s.c]
theorem askL_len (a : AskD) : (askL a).length = 4 := rfl
theorem drL_len (s : DrD) : (drL s).length = 3 := rfl
def fitsB (p : Pt) (c : Int) (qs : List AskD) : Bool := instB p.on && instB p.off && instB c && decide (qs.length ≤ 60) && qs.all (fun a => instB a.t)
theorem all_take {α : Type} (p : α → Bool) (xs : List α) (k : Nat) (x : α) (h : xs[k]? = some x) : (xs.take (k + 1)).all p = ((xs.take k).all p && p x) := by
  rw [List.take_add_one, h, List.all_append]; simp
theorem all_bad {α : Type} (p : α → Bool) (xs : List α) (k : Nat) (x : α) (h : xs[k]? = some x) (hp : p x = false) : xs.all p = false := by
  rw [← Bool.not_eq_true, List.all_eq_true]
  intro h2
  have := h2 x (List.mem_of_getElem? h)
  rw [hp] at this; cases this

set_option maxHeartbeats 4000000 in
set_option maxRecDepth 100000 in
theorem fits_any (p : Pt) (k n c : Int) (a : Option Addr) (cap : Nat) (qs : List AskD) (w : World) (hin : InS w a qs.length 4 (flat askL qs)) : Calls Try.prog 8 #[ptV p, .agg #[.int .i64 k, .int .i64 n, .int .i64 c], .slice a qs.length cap] w fun e w' => e = .returned (.bool (fitsB p c qs)) ∧ Below w.heap.size w w' := by
  obtain ⟨nm, kd, rl, un, lo, hi, st, ss, dk, dn, on, off⟩ := p
  obtain ⟨N, hN⟩ : ∃ N, N = qs.length := ⟨_, rfl⟩
  obtain ⟨Z1, hZ1⟩ : ∃ Z, Z = instB on := ⟨_, rfl⟩
  obtain ⟨Z2, hZ2⟩ : ∃ Z, Z = instB off := ⟨_, rfl⟩
  obtain ⟨Z3, hZ3⟩ : ∃ Z, Z = instB c := ⟨_, rfl⟩
  have hc1 := fun w => inst_any on w
  have hc2 := fun w => inst_any off w
  have hc3 := fun w => inst_any c w
  rw [← hZ1] at hc1
  rw [← hZ2] at hc2
  rw [← hZ3] at hc3
  have HC1 := Lib.hid hc1
  have HC2 := Lib.hid hc2
  have HC3 := Lib.hid hc3
  have HE := Lib.hid (show fitsB ⟨nm, kd, rl, un, lo, hi, st, ss, dk, dn, on, off⟩ c qs = (Z1 && Z2 && Z3 && decide (N ≤ 60) && qs.all (fun a => instB a.t)) by rw [hZ1, hZ2, hZ3, hN]; rfl)
  obtain ⟨W, g, h, hW, hg, hh, RP, RO, B, sz⟩ := box2 w #[nm, .int .i64 kd, .int .i64 rl, un, lo, hi, st, ss, dk, dn, .int .i64 on, .int .i64 off] 26 #[.int .i64 k, .int .i64 n, .int .i64 c] 28
  rw [← hN]
  have HI0 := Lib.hid (hin.keep B)
  have HN := Lib.hid hN
  clear hN hin
  go_enter Try.func8, Try.ntmps8
  go_wp2_with fail
  rw [← hW]
  try rw [← hh]
  try rw [← hg]
  have HP0 := Lib.hid RP
  have HO0 := Lib.hid RO
  have HB0 := Lib.hid B
  clear hW hg hh sz B RP RO hc1 hc2 hc3 hZ1 hZ2 hZ3
  have p_0 := HP0.out.c 0 _ rfl
  have p_1 := HP0.out.c 1 _ rfl
  have p_2 := HP0.out.c 2 _ rfl
  have p_3 := HP0.out.c 3 _ rfl
  have p_4 := HP0.out.c 4 _ rfl
  have p_5 := HP0.out.c 5 _ rfl
  have p_6 := HP0.out.c 6 _ rfl
  have p_7 := HP0.out.c 7 _ rfl
  have p_8 := HP0.out.c 8 _ rfl
  have p_9 := HP0.out.c 9 _ rfl
  have p_10 := HP0.out.c 10 _ rfl
  have p_11 := HP0.out.c 11 _ rfl
  have p_z := HP0.out.fz
  have o_0 := HO0.out.c 0 _ rfl
  have o_1 := HO0.out.c 1 _ rfl
  have o_2 := HO0.out.c 2 _ rfl
  have o_z := HO0.out.fz
  go_wp2_with fail
  refine (HC1.out _).mono ?_
  rintro e w1 ⟨rfl, hb⟩
  clear p_0 p_1 p_2 p_3 p_4 p_5 p_6 p_7 p_8 p_9 p_10 p_11 p_z
  clear o_0 o_1 o_2 o_z
  have HP1 := Lib.hid (HP0.out.keep hb)
  have HO1 := Lib.hid (HO0.out.keep hb)
  have HI1 := Lib.hid (HI0.out.keep hb)
  have HB1 := Lib.hid (HB0.out.trans (hb.mono HB0.out.size))
  clear hb HP0 HO0 HB0 HI0
  cases Z1
  · have p_0 := HP1.out.c 0 _ rfl
    have p_1 := HP1.out.c 1 _ rfl
    have p_2 := HP1.out.c 2 _ rfl
    have p_3 := HP1.out.c 3 _ rfl
    have p_4 := HP1.out.c 4 _ rfl
    have p_5 := HP1.out.c 5 _ rfl
    have p_6 := HP1.out.c 6 _ rfl
    have p_7 := HP1.out.c 7 _ rfl
    have p_8 := HP1.out.c 8 _ rfl
    have p_9 := HP1.out.c 9 _ rfl
    have p_10 := HP1.out.c 10 _ rfl
    have p_11 := HP1.out.c 11 _ rfl
    have p_z := HP1.out.fz
    have o_0 := HO1.out.c 0 _ rfl
    have o_1 := HO1.out.c 1 _ rfl
    have o_2 := HO1.out.c 2 _ rfl
    have o_z := HO1.out.fz
    go_wp2_with fail
    go_ret
    exact ⟨by rw [HE.out]; simp, HB1.out⟩
  · have p_0 := HP1.out.c 0 _ rfl
    have p_1 := HP1.out.c 1 _ rfl
    have p_2 := HP1.out.c 2 _ rfl
    have p_3 := HP1.out.c 3 _ rfl
    have p_4 := HP1.out.c 4 _ rfl
    have p_5 := HP1.out.c 5 _ rfl
    have p_6 := HP1.out.c 6 _ rfl
    have p_7 := HP1.out.c 7 _ rfl
    have p_8 := HP1.out.c 8 _ rfl
    have p_9 := HP1.out.c 9 _ rfl
    have p_10 := HP1.out.c 10 _ rfl
    have p_11 := HP1.out.c 11 _ rfl
    have p_z := HP1.out.fz
    have o_0 := HO1.out.c 0 _ rfl
    have o_1 := HO1.out.c 1 _ rfl
    have o_2 := HO1.out.c 2 _ rfl
    have o_z := HO1.out.fz
    go_wp2_with fail
    refine (HC2.out _).mono ?_
    rintro e w2 ⟨rfl, hb⟩
    clear p_0 p_1 p_2 p_3 p_4 p_5 p_6 p_7 p_8 p_9 p_10 p_11 p_z
    clear o_0 o_1 o_2 o_z
    have HP2 := Lib.hid (HP1.out.keep hb)
    have HO2 := Lib.hid (HO1.out.keep hb)
    have HI2 := Lib.hid (HI1.out.keep hb)
    have HB2 := Lib.hid (HB1.out.trans (hb.mono HB1.out.size))
    clear hb HP1 HO1 HB1 HI1
    cases Z2
    · have p_0 := HP2.out.c 0 _ rfl
      have p_1 := HP2.out.c 1 _ rfl
      have p_2 := HP2.out.c 2 _ rfl
      have p_3 := HP2.out.c 3 _ rfl
      have p_4 := HP2.out.c 4 _ rfl
      have p_5 := HP2.out.c 5 _ rfl
      have p_6 := HP2.out.c 6 _ rfl
      have p_7 := HP2.out.c 7 _ rfl
      have p_8 := HP2.out.c 8 _ rfl
      have p_9 := HP2.out.c 9 _ rfl
      have p_10 := HP2.out.c 10 _ rfl
      have p_11 := HP2.out.c 11 _ rfl
      have p_z := HP2.out.fz
      have o_0 := HO2.out.c 0 _ rfl
      have o_1 := HO2.out.c 1 _ rfl
      have o_2 := HO2.out.c 2 _ rfl
      have o_z := HO2.out.fz
      go_wp2_with fail
      go_ret
      exact ⟨by rw [HE.out]; simp, HB2.out⟩
    · have p_0 := HP2.out.c 0 _ rfl
      have p_1 := HP2.out.c 1 _ rfl
      have p_2 := HP2.out.c 2 _ rfl
      have p_3 := HP2.out.c 3 _ rfl
      have p_4 := HP2.out.c 4 _ rfl
      have p_5 := HP2.out.c 5 _ rfl
      have p_6 := HP2.out.c 6 _ rfl
      have p_7 := HP2.out.c 7 _ rfl
      have p_8 := HP2.out.c 8 _ rfl
      have p_9 := HP2.out.c 9 _ rfl
      have p_10 := HP2.out.c 10 _ rfl
      have p_11 := HP2.out.c 11 _ rfl
      have p_z := HP2.out.fz
      have o_0 := HO2.out.c 0 _ rfl
      have o_1 := HO2.out.c 1 _ rfl
      have o_2 := HO2.out.c 2 _ rfl
      have o_z := HO2.out.fz
      go_wp2_with fail
      refine (HC3.out _).mono ?_
      rintro e w3 ⟨rfl, hb⟩
      clear p_0 p_1 p_2 p_3 p_4 p_5 p_6 p_7 p_8 p_9 p_10 p_11 p_z
      clear o_0 o_1 o_2 o_z
      have HP3 := Lib.hid (HP2.out.keep hb)
      have HO3 := Lib.hid (HO2.out.keep hb)
      have HI3 := Lib.hid (HI2.out.keep hb)
      have HB3 := Lib.hid (HB2.out.trans (hb.mono HB2.out.size))
      clear hb HP2 HO2 HB2 HI2
      cases Z3
      · have p_0 := HP3.out.c 0 _ rfl
        have p_1 := HP3.out.c 1 _ rfl
        have p_2 := HP3.out.c 2 _ rfl
        have p_3 := HP3.out.c 3 _ rfl
        have p_4 := HP3.out.c 4 _ rfl
        have p_5 := HP3.out.c 5 _ rfl
        have p_6 := HP3.out.c 6 _ rfl
        have p_7 := HP3.out.c 7 _ rfl
        have p_8 := HP3.out.c 8 _ rfl
        have p_9 := HP3.out.c 9 _ rfl
        have p_10 := HP3.out.c 10 _ rfl
        have p_11 := HP3.out.c 11 _ rfl
        have p_z := HP3.out.fz
        have o_0 := HO3.out.c 0 _ rfl
        have o_1 := HO3.out.c 1 _ rfl
        have o_2 := HO3.out.c 2 _ rfl
        have o_z := HO3.out.fz
        go_wp2_with fail
        go_ret
        exact ⟨by rw [HE.out]; simp, HB3.out⟩
      · by_cases h60 : 60 < N
        · have p_0 := HP3.out.c 0 _ rfl
          have p_1 := HP3.out.c 1 _ rfl
          have p_2 := HP3.out.c 2 _ rfl
          have p_3 := HP3.out.c 3 _ rfl
          have p_4 := HP3.out.c 4 _ rfl
          have p_5 := HP3.out.c 5 _ rfl
          have p_6 := HP3.out.c 6 _ rfl
          have p_7 := HP3.out.c 7 _ rfl
          have p_8 := HP3.out.c 8 _ rfl
          have p_9 := HP3.out.c 9 _ rfl
          have p_10 := HP3.out.c 10 _ rfl
          have p_11 := HP3.out.c 11 _ rfl
          have p_z := HP3.out.fz
          have o_0 := HO3.out.c 0 _ rfl
          have o_1 := HO3.out.c 1 _ rfl
          have o_2 := HO3.out.c 2 _ rfl
          have o_z := HO3.out.fz
          have h6 : decide ((60 : Int) < (N : Int)) = true := by simp; omega
          go_wp2_with fail
          go_ret
          exact ⟨by rw [HE.out]; simp; omega, HB3.out⟩
        · have hZ := HE.out
          rw [decide_eq_true (show N ≤ 60 by omega)] at hZ
          simp only [Bool.and_self, Bool.true_and] at hZ
          have HA := Lib.hid hZ
          have H6 := Lib.hid h60
          clear hZ HE
          have h6 : decide ((60 : Int) < (N : Int)) = false := by simp; omega
          clear h60
          go_wp2_with fail
          go_loopw [7] (fun i wr => ∃ j : Nat, j ≤ N ∧ i = .int .i64 j ∧ Hid ((qs.take j).all (fun a => instB a.t) = true ∧ Below w.heap.size w wr ∧ InS wr a qs.length 4 (flat askL qs))) (fun i _ => N - (intOf i).toNat)
          case atStart => exact ⟨0, by omega, rfl, Lib.hid ⟨rfl, HB3.out, HI3.out⟩⟩
          case round =>
            obtain ⟨j, hj, rfl, hH⟩ := hrel
            by_cases hlt : j < N
            · have hjl : j < qs.length := by rw [← HN.out]; exact hlt
              obtain ⟨b, off', rfl, hbl, hcell⟩ := hH.out.2.2.at askL_len (by omega)
              obtain ⟨x, hx⟩ : ∃ x, qs[j]? = some x := ⟨_, List.getElem?_eq_getElem hjl⟩
              have c0 := hcell j x hx 0 _ rfl
              rw [Nat.add_zero] at c0
              have hca := fun w => inst_any x.t w
              obtain ⟨Z, hZ⟩ : ∃ Z, Z = instB x.t := ⟨_, rfl⟩
              rw [← hZ] at hca
              have HCA := Lib.hid hca
              have HZ := Lib.hid hZ
              have HX := Lib.hid hx
              have k1 : (0 : Int) ≤ (j : Int) := by omega
              have k2 : (j : Int) < (N : Int) := by omega
              have k3 : N ≤ 60 := by have := H6.out; omega
              clear hca hZ hx hcell hjl
              go_wp2_with fail
              refine (HCA.out _).mono ?_
              rintro e w9 ⟨rfl, hb⟩
              have HB9 := Lib.hid (hH.out.2.1.trans (hb.mono hH.out.2.1.size))
              have HI9 := Lib.hid (hH.out.2.2.keep hb)
              clear hb c0 hbl
              cases Z
              · go_wp2_with fail
                go_ret
                exact ⟨congrArg (fun x => Ending.returned (.bool x)) (HA.out.trans (all_bad _ qs j x HX.out HZ.out.symm)).symm, HB9.out⟩
              · go_wp2_with fail
                go_roundw
                case rel => exact ⟨j + 1, by omega, by go_num, Lib.hid ⟨by rw [all_take _ qs j x HX.out, hH.out.1, ← HZ.out]; rfl, HB9.out, HI9.out⟩⟩
                case measure => simp [intOf]; omega
            · obtain rfl : j = N := by omega
              go_wp2_with fail
              go_ret
              exact ⟨congrArg (fun x => Ending.returned (.bool x)) (HA.out.trans (by
                have := hH.out.1
                rwa [HN.out, List.take_length] at this)).symm, hH.out.2.1⟩

theorem same_no {xs ys : List DrD} (h : xs ≠ ys) : decide (xs = ys) = false := decide_eq_false h
set_option maxHeartbeats 4000000 in
set_option maxRecDepth 100000 in
theorem same_any (a b : Option Addr) (cap cbp : Nat) (xs ys : List DrD) (w : World) (hx : InS w a xs.length 3 (flat drL xs)) (hy : InS w b ys.length 3 (flat drL ys)) : Calls Try.prog 15 #[.slice a xs.length cap, .slice b ys.length cbp] w fun e w' => e = .returned (.bool (decide (xs = ys))) ∧ Below w.heap.size w w' := by
  obtain ⟨N, hN⟩ : ∃ N, N = xs.length := ⟨_, rfl⟩
  obtain ⟨K, hK⟩ : ∃ K, K = ys.length := ⟨_, rfl⟩
  rw [← hN, ← hK]
  have HN := Lib.hid hN
  have HK := Lib.hid hK
  have HX := Lib.hid hx
  have HY := Lib.hid hy
  clear hN hK hx hy
  have hcon := fun h => same_no (xs := xs) (ys := ys) h
  have HC := Lib.hid hcon
  clear hcon
  by_cases hl : N = K
  · subst hl
    go_enter Try.func15, Try.ntmps15
    go_wp2_with fail
    go_loopw [5] (fun i wr => ∃ j : Nat, j ≤ N ∧ i = .int .i64 j ∧ Hid (xs.take j = ys.take j ∧ Below w.heap.size w wr)) (fun i _ => N - (intOf i).toNat)
    case atStart => exact ⟨0, by omega, rfl, Lib.hid ⟨rfl, Below.refl _ _⟩⟩
    case round =>
      obtain ⟨j, hj, rfl, hH⟩ := hrel
      by_cases hlt : j < N
      · have hjx : j < xs.length := by rw [← HN.out]; exact hlt
        have hjy : j < ys.length := by rw [← HK.out]; exact hlt
        obtain ⟨b, o, rfl, hbl, hcell⟩ := (HX.out.keep hH.out.2).at drL_len (by omega)
        obtain ⟨b1, o1, rfl, hbl1, hcell1⟩ := (HY.out.keep hH.out.2).at drL_len (by omega)
        obtain ⟨x, hx⟩ : ∃ x, xs[j]? = some x := ⟨_, List.getElem?_eq_getElem hjx⟩
        obtain ⟨y, hy⟩ : ∃ x, ys[j]? = some x := ⟨_, List.getElem?_eq_getElem hjy⟩
        obtain ⟨xk, xn, xc⟩ := x
        obtain ⟨yk, yn, yc⟩ := y
        have c0 := hcell j _ hx 0 _ rfl
        have c1 := hcell j _ hx 1 _ rfl
        have c2 := hcell j _ hx 2 _ rfl
        have d0 := hcell1 j _ hy 0 _ rfl
        have d1 := hcell1 j _ hy 1 _ rfl
        have d2 := hcell1 j _ hy 2 _ rfl
        rw [Nat.add_zero] at c0 d0
        have k1 : (0 : Int) ≤ (j : Int) := by omega
        have k2 : (j : Int) < (N : Int) := by omega
        have k3 : N ≤ 9223372036854775807 := by have := HX.out.2.1; have := HN.out; omega
        have HX1 := Lib.hid hx
        have HY1 := Lib.hid hy
        have HB := Lib.hid hH.out.2
        clear hx hy hcell hcell1 hjx hjy
        by_cases hd : xk = yk ∧ xn = yn ∧ xc = yc
        · obtain ⟨rfl, rfl, rfl⟩ := hd
          go_wp2_with fail
          go_quiet (fail)
          go_wp2_with fail
          go_roundw
          case rel => exact ⟨j + 1, by omega, by go_num, Lib.hid ⟨by rw [List.take_add_one, List.take_add_one, hH.out.1, HX1.out, HY1.out], bdrewN HB.out _⟩⟩
          case measure => simp [intOf]; omega
        · have HD := Lib.hid (show xs ≠ ys from fun e => by
            have h := HX1.out
            rw [e, HY1.out] at h
            injection h with h
            injection h with a b c
            exact hd ⟨a.symm, b.symm, c.symm⟩)
          by_cases h1 : xk = yk
          · subst h1
            by_cases h2 : xn = yn
            · subst h2
              have t3 : (xc == yc) = false := by rw [beq_eq_false_iff_ne]; exact fun h => hd ⟨rfl, rfl, h⟩
              clear hd
              go_wp2_with fail
              go_quiet (fail)
              go_wp2_with fail
              go_ret
              exact ⟨congrArg (fun x => Ending.returned (.bool x)) (HC.out HD.out).symm, bdrewN HB.out _⟩
            · have t2 : (xn == yn) = false := by rw [beq_eq_false_iff_ne]; exact h2
              clear hd h2
              go_wp2_with fail
              go_quiet (fail)
              go_wp2_with fail
              go_ret
              exact ⟨congrArg (fun x => Ending.returned (.bool x)) (HC.out HD.out).symm, bdrewN HB.out _⟩
          · have t1 : (xk == yk) = false := by rw [beq_eq_false_iff_ne]; exact h1
            clear hd h1
            go_wp2_with fail
            go_quiet (fail)
            go_wp2_with fail
            go_ret
            exact ⟨congrArg (fun x => Ending.returned (.bool x)) (HC.out HD.out).symm, bdrewN HB.out _⟩
      · obtain rfl : j = N := by omega
        go_wp2_with fail
        go_ret
        exact ⟨congrArg (fun x => Ending.returned (.bool x)) (decide_eq_true (show xs = ys by
          have h := hH.out.1
          rwa [HN.out, List.take_length, ← HN.out, HK.out, List.take_length] at h)).symm, hH.out.2⟩
  · have HD := Lib.hid (show xs ≠ ys from fun e => hl (by rw [HN.out, HK.out, e]))
    have hl2 : ((N : Int) == (K : Int)) = false := by rw [beq_eq_false_iff_ne]; omega
    clear hl
    go_enter Try.func15, Try.ntmps15
    go_wp2_with fail
    go_ret
    exact ⟨congrArg (fun x => Ending.returned (.bool x)) (HC.out HD.out).symm, Below.refl _ _⟩
end Go.Proofs.Ytlmcdnfihgimjaa
