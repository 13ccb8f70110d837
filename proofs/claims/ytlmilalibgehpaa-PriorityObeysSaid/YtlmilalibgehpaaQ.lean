/- The contract of the specification's Put. -/
import Derived.Test.YtlmilalibgehpaaP
import Derived.Test.YtlmilalibgehpaaK
namespace Go.Proofs.Ytlmilalibgehpaa
open Go.RowKit

theorem put_slots (xs : List WrD) (l k n : Int) (p : Nat) (hp : (l - 1).toNat = p) (h1 : lvB l = true) (h2 : valB k n = true) (hq : (bestS xs p).q < 1000000000) : bestS (xs ++ [putX (bestS xs) l k n]) = setS (bestS xs) p (putX (bestS xs) l k n) := by
  have hs := best_seq xs p
  rw [← best_append]
  have e : slotsF (bestS xs) [putX (bestS xs) l k n] = addS (bestS xs) (putX (bestS xs) l k n) := rfl
  rw [e]
  have eq : (putX (bestS xs) l k n).q = (bestS xs p).q + 1 := by show (bestS xs (l - 1).toNat).q + 1 = _; rw [hp]
  refine addS_new hp ?_ ((cmp_less _ _).2 ?_)
  · unfold checkW
    rw [eq]
    rw [if_neg (by show ¬ lvB l = false; rw [h1]; simp), if_neg (by omega), if_neg (by omega), if_neg (by show ¬ valB k n = false; rw [h2]; simp)]
  · unfold lessB
    rw [eq, if_pos (by omega)]; simp only [decide_eq_true_eq]; omega

set_option maxHeartbeats 8000000 in
set_option maxRecDepth 100000 in
theorem rput_any (a : Option Addr) (cap : Nat) (xs : List WrD) (l k n : Int) (w : World) (hmax : xs.length ≤ 99) (hin : InS w a xs.length 4 (flat wrL xs)) : Calls Try.prog 28 #[.slice a xs.length cap, .int .i64 l, .agg #[.int .i64 k, .int .i64 n]] w fun e w' => ∃ v, e = .returned (.tuple #[v, .int .i64 (putE (bestS xs) l k n)]) ∧ w'.ownsRow w.heap.size 25 4 v (putL (bestS xs) l k n).length (flat wrL (putL (bestS xs) l k n)) ∧ Below w.heap.size w w' := by
  have HAT := Lib.hid (fun p hl w1 hb => at_any a cap xs l p hl w1 (by omega) (hin.keep (w' := w1) hb))
  have HJ := Lib.hid (fun (v2 : Option Addr) (c2 : Nat) (ys : List WrD) (w1 : World) hb (hy : ys.length ≤ 100) hin2 => rjoin_any a v2 cap c2 xs ys w1 (by omega) hy (hin.keep (w' := w1) hb) hin2)
  obtain ⟨N, hN⟩ : ∃ N, N = xs.length := ⟨_, rfl⟩
  rw [← hN] at HAT HJ ⊢
  obtain ⟨Z, hZ⟩ : ∃ Z, Z = valB k n := ⟨_, rfl⟩
  have hv := fun w => possible_any k n w
  rw [← hZ] at hv
  have HVA := Lib.hid hv
  have HZ := Lib.hid hZ
  obtain ⟨W, h, hW, hh, RO, B, sz⟩ := box1 w #[.int .i64 k, .int .i64 n] 23
  have HO0 := Lib.hid RO
  have HB0 := Lib.hid B
  clear hmax hin hN hZ hv RO B sz
  by_cases h1 : l < 1
  · have HY := Lib.hid (show lvB l = false by unfold lvB; simp; omega)
    have HL1 := Lib.hid h1
    go_enter Try.func28, Try.ntmps28
    go_wp2_with fail
    rw [← hW]
    clear hW hh
    have hE : putE (bestS xs) l k n = 1 := if_pos HY.out
    have HE := Lib.hid hE
    have HL := Lib.hid (put_bad hE (by decide))
    clear hE
    go_wp2_with fail
    go_ret2
    exact ⟨.slice none 0 0, congrArg (fun x => Ending.returned (.tuple #[.slice none 0 0, .int .i64 x])) HE.out.symm, by rw [HL.out]; exact World.ownsRow_nil _ _ _ _, HB0.out⟩
  by_cases h2 : 16 < l
  · have HY := Lib.hid (show lvB l = false by unfold lvB; simp; omega)
    go_enter Try.func28, Try.ntmps28
    go_wp2_with fail
    rw [← hW]
    clear hW hh
    have hE : putE (bestS xs) l k n = 1 := if_pos HY.out
    have HE := Lib.hid hE
    have HL := Lib.hid (put_bad hE (by decide))
    clear hE
    go_wp2_with fail
    go_ret2
    exact ⟨.slice none 0 0, congrArg (fun x => Ending.returned (.tuple #[.slice none 0 0, .int .i64 x])) HE.out.symm, by rw [HL.out]; exact World.ownsRow_nil _ _ _ _, HB0.out⟩
  have HYN := Lib.hid (show lvB l = true by unfold lvB; simp; omega)
  go_enter Try.func28, Try.ntmps28
  go_wp2_with fail
  rw [← hW]
  try rw [← hh]
  clear hW hh
  have o0 := HO0.out.c 0 _ rfl
  have o1 := HO0.out.c 1 _ rfl
  have oz := HO0.out.fz
  go_wp2_with fail
  refine (HVA.out _).mono ?_
  rintro e w1 ⟨rfl, hb⟩
  clear o0 o1 oz
  have HO1 := Lib.hid (HO0.out.keep hb)
  have HB1 := Lib.hid (HB0.out.trans (hb.mono HB0.out.size))
  clear hb HO0 HB0 HVA
  have HYG := Lib.hid (show ¬ lvB l = false by rw [HYN.out]; simp)
  cases Z
  · have hE : putE (bestS xs) l k n = 11 := (if_neg HYG.out).trans (if_pos HZ.out.symm)
    have HE := Lib.hid hE
    have HL := Lib.hid (put_bad hE (by decide))
    clear hE
    go_wp2_with fail
    go_ret2
    exact ⟨.slice none 0 0, congrArg (fun x => Ending.returned (.tuple #[.slice none 0 0, .int .i64 x])) HE.out.symm, by rw [HL.out]; exact World.ownsRow_nil _ _ _ _, HB1.out⟩
  have hl2 : 1 ≤ l ∧ l ≤ 16 := by
    have h := HYN.out
    unfold lvB at h
    simpa using h
  obtain ⟨p, hp⟩ : ∃ p : Nat, (l - 1).toNat = p := ⟨_, rfl⟩
  have hpl : l = (p : Int) + 1 := by omega
  have HVG := Lib.hid (show ¬ valB k n = false by rw [← HZ.out]; simp)
  have HPS := Lib.hid (fun hq => put_slots xs l k n p hp HYN.out HZ.out.symm hq)
  have hq := best_seq xs p
  obtain ⟨S, hS⟩ : ∃ S, S = bestS xs := ⟨_, rfl⟩
  have hat := HAT.out p hpl
  rw [← hS] at hq hat
  obtain ⟨⟨yl, yq, yk, yn⟩, hy⟩ : ∃ y, S p = y := ⟨_, rfl⟩
  rw [hy] at hq hat
  obtain ⟨F, hF⟩ : ∃ F, F = foundB ⟨yl, yq, yk, yn⟩ := ⟨_, rfl⟩
  rw [← hF] at hat
  have hq1 : 0 ≤ yq := hq.1
  have hq2 : yq ≤ 1000000000 := hq.2
  have HAT2 := Lib.hid hat
  have HSS := Lib.hid hS
  have HPP := Lib.hid hp
  have HYY := Lib.hid hy
  have HNUM := Lib.hid (And.intro hl2 (And.intro hpl (And.intro hq1 hq2)))
  clear hS hp hy hl2 hpl hq hq1 hq2 hat HAT hF h1 h2
  go_wp2_with fail
  refine (HAT2.out _ HB1.out).mono ?_
  rintro e w2 ⟨rfl, hb⟩
  have HO2 := Lib.hid (HO1.out.keep hb)
  have HB2 := Lib.hid (HB1.out.trans (hb.mono HB1.out.size))
  clear hb HO1 HB1 HAT2
  have hk := (Below.refl w2.heap.size w2).alloc (Nat.le_refl _) (Obj.cells #[.int .i64 yl, .int .i64 yq, .int .i64 yk, .int .i64 yn] 25)
  have HO3 := Lib.hid (HO2.out.keep hk)
  have HY3 := Lib.hid (row_fresh w2 #[.int .i64 yl, .int .i64 yq, .int .i64 yk, .int .i64 yn] 25)
  have HB3 := Lib.hid (HB2.out.trans (hk.mono HB2.out.size))
  clear hk HO2 HB2
  have y_0 := HY3.out.c 0 _ rfl
  have y_1 := HY3.out.c 1 _ rfl
  have y_2 := HY3.out.c 2 _ rfl
  have y_3 := HY3.out.c 3 _ rfl
  have y_z := HY3.out.fz
  have hq1 := HNUM.out.2.2.1
  have hq2 := HNUM.out.2.2.2
  by_cases hm : yq = 1000000000
  · have HM := Lib.hid (show (bestS xs (l - 1).toNat).q = 1000000000 by rw [HPP.out, ← HSS.out, HYY.out]; exact hm)
    subst hm
    have hE : putE (bestS xs) l k n = 7 := (if_neg HYG.out).trans ((if_neg HVG.out).trans (if_pos HM.out))
    have HE := Lib.hid hE
    have HL := Lib.hid (put_bad hE (by decide))
    clear hE
    go_wp2_with fail
    go_ret2
    exact ⟨.slice none 0 0, congrArg (fun x => Ending.returned (.tuple #[.slice none 0 0, .int .i64 x])) HE.out.symm, by rw [HL.out]; exact World.ownsRow_nil _ _ _ _, HB3.out⟩
  have HM := Lib.hid (show ¬ (bestS xs (l - 1).toNat).q = 1000000000 by rw [HPP.out, ← HSS.out, HYY.out]; exact hm)
  have w0 : IntKind.i64.wrap (yq + 1) = yq + 1 := IntWalk.i64_in _ ⟨by omega, by omega⟩
  clear y_0 y_1 y_2 y_3 y_z
  go_upto_region 8 with fail
  obtain ⟨W3, hW3⟩ : ∃ x, x = w2.alloc (Obj.cells #[.int .i64 yl, .int .i64 yq, .int .i64 yk, .int .i64 yn] 25) := ⟨_, rfl⟩
  obtain ⟨b3, hb3⟩ : ∃ x, x = w2.heap.size := ⟨_, rfl⟩
  rw [← hW3] at HO3 HY3 HB3 ⊢
  rw [← hb3] at HY3 ⊢
  clear hW3 hb3
  have o_0 := HO3.out.c 0 _ rfl
  have o_1 := HO3.out.c 1 _ rfl
  have o_z := HO3.out.fz
  have y_0 := HY3.out.c 0 _ rfl
  have y_1 := HY3.out.c 1 _ rfl
  have y_2 := HY3.out.c 2 _ rfl
  have y_3 := HY3.out.c 3 _ rfl
  have y_z := HY3.out.fz
  go_wp2_with fail
  clear o_0 o_1 o_z
  clear y_0 y_1 y_2 y_3 y_z
  have hk := (Below.refl W3.heap.size W3).alloc (Nat.le_refl _) (Obj.cells #[.int .i64 l, .int .i64 (yq + 1), .int .i64 k, .int .i64 n] 25)
  have HB4 := Lib.hid (HB3.out.trans (hk.mono HB3.out.size))
  have HI4 := Lib.hid (show InS (W3.alloc (Obj.cells #[.int .i64 l, .int .i64 (yq + 1), .int .i64 k, .int .i64 n] 25)) (some ⟨W3.heap.size, 0, none⟩) 1 4 (flat wrL [⟨l, yq + 1, k, n⟩]) from ins_fresh W3 #[.int .i64 l, .int .i64 (yq + 1), .int .i64 k, .int .i64 n] 25 4 rfl)
  have hcall := HJ.out (some ⟨W3.heap.size, 0, none⟩) 1 [⟨l, yq + 1, k, n⟩] _ HB4.out (by simp) HI4.out
  have hX : putX (bestS xs) l k n = ⟨l, yq + 1, k, n⟩ := by unfold putX; rw [HPP.out, ← HSS.out, HYY.out]
  have hE : putE (bestS xs) l k n = 0 := (if_neg HYG.out).trans ((if_neg HVG.out).trans (if_neg HM.out))
  have hq9 : (bestS xs p).q < 1000000000 := by rw [← HSS.out, HYY.out]; show yq < 1000000000; omega
  have hL : writesL (bestS (xs ++ [⟨l, yq + 1, k, n⟩])) = putL (bestS xs) l k n := by
    unfold putL
    rw [if_pos hE, HPP.out, ← HPS.out hq9, hX]
  have HE := Lib.hid hE
  have HL := Lib.hid hL
  clear hk hX hE hq9 hL HB3 HI4 HJ
  refine hcall.mono ?_
  clear hcall
  rintro e w5 ⟨v, rfl, ho, hb⟩
  have HO5 := Lib.hid (own_base ho HB4.out.size)
  have HB5 := Lib.hid (HB4.out.trans (hb.mono HB4.out.size))
  clear ho hb
  go_wp2_with fail
  go_ret2
  exact ⟨v, congrArg (fun x => Ending.returned (.tuple #[v, .int .i64 x])) HE.out.symm, by rw [← HL.out]; exact HO5.out, HB5.out⟩
end Go.Proofs.Ytlmilalibgehpaa
