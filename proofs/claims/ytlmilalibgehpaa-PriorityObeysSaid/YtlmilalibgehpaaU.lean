/- The contracts with their lists opaque, results as slices that may be read. -/
import Derived.Test.YtlmilalibgehpaaO
import Derived.Test.YtlmilalibgehpaaQ
import Derived.Test.YtlmilalibgehpaaR
import Derived.Test.YtlmilalibgehpaaS
import Derived.Test.YtlmilalibgehpaaK
namespace Go.Proofs.Ytlmilalibgehpaa
open Go.RowKit

theorem of_ins (a : Option Addr) (cap N : Nat) (xs : List WrD) (hN : N = xs.length) (w : World) (h6 : N ≤ 60) (hin : InS w a xs.length 4 (flat wrL xs)) (L : List WrD) (hL : writesL (bestS xs) = L) : Calls Try.prog 15 #[.slice a N cap] w fun e w' => ∃ b c, e = .returned (.slice b L.length c) ∧ InS w' b L.length 4 (flat wrL L) ∧ Below w.heap.size w w' := by
  subst hN
  have h := of_any a cap xs w (by omega) hin
  rw [hL] at h
  refine h.mono ?_
  rintro e w1 ⟨v, rfl, ho, hb⟩
  obtain ⟨b, c, rfl, hi⟩ := ins_own ho
  exact ⟨b, c, rfl, hi, hb⟩
theorem rof_ins (a : Option Addr) (cap N : Nat) (xs : List WrD) (hN : N = xs.length) (w : World) (h6 : N ≤ 60) (hin : InS w a xs.length 4 (flat wrL xs)) (L : List WrD) (hL : writesL (bestS xs) = L) : Calls Try.prog 16 #[.slice a N cap] w fun e w' => ∃ b c, e = .returned (.slice b L.length c) ∧ InS w' b L.length 4 (flat wrL L) ∧ Below w.heap.size w w' := by
  subst hN
  have h := rof_any a cap xs w (by omega) hin
  rw [hL] at h
  refine h.mono ?_
  rintro e w1 ⟨v, rfl, ho, hb⟩
  obtain ⟨b, c, rfl, hi⟩ := ins_own ho
  exact ⟨b, c, rfl, hi, hb⟩
theorem join_ins (a b0 : Option Addr) (cap cb N K : Nat) (xs ys : List WrD) (hN : N = xs.length) (hK : K = ys.length) (w : World) (h6 : N ≤ 60) (h7 : K ≤ 60) (hin : InS w a xs.length 4 (flat wrL xs)) (hin2 : InS w b0 ys.length 4 (flat wrL ys)) (L : List WrD) (hL : writesL (bestS (xs ++ ys)) = L) : Calls Try.prog 17 #[.slice a N cap, .slice b0 K cb] w fun e w' => ∃ b c, e = .returned (.slice b L.length c) ∧ InS w' b L.length 4 (flat wrL L) ∧ Below w.heap.size w w' := by
  subst hN hK
  have h := join_any a b0 cap cb xs ys w (by omega) (by omega) hin hin2
  rw [hL] at h
  refine h.mono ?_
  rintro e w1 ⟨v, rfl, ho, hb⟩
  obtain ⟨b, c, rfl, hi⟩ := ins_own ho
  exact ⟨b, c, rfl, hi, hb⟩
theorem rjoin_ins (a b0 : Option Addr) (cap cb N K : Nat) (xs ys : List WrD) (hN : N = xs.length) (hK : K = ys.length) (w : World) (h6 : N ≤ 60) (h7 : K ≤ 60) (hin : InS w a xs.length 4 (flat wrL xs)) (hin2 : InS w b0 ys.length 4 (flat wrL ys)) (L : List WrD) (hL : writesL (bestS (xs ++ ys)) = L) : Calls Try.prog 18 #[.slice a N cap, .slice b0 K cb] w fun e w' => ∃ b c, e = .returned (.slice b L.length c) ∧ InS w' b L.length 4 (flat wrL L) ∧ Below w.heap.size w w' := by
  subst hN hK
  have h := rjoin_any a b0 cap cb xs ys w (by omega) (by omega) hin hin2
  rw [hL] at h
  refine h.mono ?_
  rintro e w1 ⟨v, rfl, ho, hb⟩
  obtain ⟨b, c, rfl, hi⟩ := ins_own ho
  exact ⟨b, c, rfl, hi, hb⟩
theorem keep_ins (a b0 : Option Addr) (cap cb N K : Nat) (xs : List WrD) (ls : List Int) (hN : N = xs.length) (hK : K = ls.length) (w : World) (h6 : N ≤ 60) (hin : InS w a xs.length 4 (flat wrL xs)) (hin2 : InS w b0 ls.length 1 (flat iL ls)) (L : List WrD) (hL : writesL (keepF (bestS xs) ls) = L) : Calls Try.prog 19 #[.slice a N cap, .slice b0 K cb] w fun e w' => ∃ b c, e = .returned (.slice b L.length c) ∧ InS w' b L.length 4 (flat wrL L) ∧ Below w.heap.size w w' := by
  subst hN hK
  have h := keep_any a b0 cap cb xs ls w (by omega) hin hin2
  rw [hL] at h
  refine h.mono ?_
  rintro e w1 ⟨v, rfl, ho, hb⟩
  obtain ⟨b, c, rfl, hi⟩ := ins_own ho
  exact ⟨b, c, rfl, hi, hb⟩
theorem rkeep_ins (a b0 : Option Addr) (cap cb N K : Nat) (xs : List WrD) (ls : List Int) (hN : N = xs.length) (hK : K = ls.length) (w : World) (h6 : N ≤ 60) (hin : InS w a xs.length 4 (flat wrL xs)) (hin2 : InS w b0 ls.length 1 (flat iL ls)) (L : List WrD) (hL : (writesL (bestS xs)).filter (lsB ls) = L) : Calls Try.prog 20 #[.slice a N cap, .slice b0 K cb] w fun e w' => ∃ b c, e = .returned (.slice b L.length c) ∧ InS w' b L.length 4 (flat wrL L) ∧ Below w.heap.size w w' := by
  subst hN hK
  have h := rkeep_any a b0 cap cb xs ls w (by omega) hin hin2
  rw [hL] at h
  refine h.mono ?_
  rintro e w1 ⟨v, rfl, ho, hb⟩
  obtain ⟨b, c, rfl, hi⟩ := ins_own ho
  exact ⟨b, c, rfl, hi, hb⟩
theorem put_ins (a : Option Addr) (cap N : Nat) (xs : List WrD) (hN : N = xs.length) (l k n : Int) (w : World) (h6 : N ≤ 60) (hin : InS w a xs.length 4 (flat wrL xs)) (L : List WrD) (hL : putL (bestS xs) l k n = L) (E : Int) (hE : putE (bestS xs) l k n = E) : Calls Try.prog 27 #[.slice a N cap, .int .i64 l, .agg #[.int .i64 k, .int .i64 n]] w fun e w' => ∃ b c, e = .returned (.tuple #[.slice b L.length c, .int .i64 E]) ∧ InS w' b L.length 4 (flat wrL L) ∧ Below w.heap.size w w' := by
  subst hN
  have h := put_any a cap xs l k n w (by omega) hin
  rw [hL, hE] at h
  refine h.mono ?_
  rintro e w1 ⟨v, rfl, ho, hb⟩
  obtain ⟨b, c, rfl, hi⟩ := ins_own ho
  exact ⟨b, c, rfl, hi, hb⟩
theorem rput_ins (a : Option Addr) (cap N : Nat) (xs : List WrD) (hN : N = xs.length) (l k n : Int) (w : World) (h6 : N ≤ 60) (hin : InS w a xs.length 4 (flat wrL xs)) (L : List WrD) (hL : putL (bestS xs) l k n = L) (E : Int) (hE : putE (bestS xs) l k n = E) : Calls Try.prog 28 #[.slice a N cap, .int .i64 l, .agg #[.int .i64 k, .int .i64 n]] w fun e w' => ∃ b c, e = .returned (.tuple #[.slice b L.length c, .int .i64 E]) ∧ InS w' b L.length 4 (flat wrL L) ∧ Below w.heap.size w w' := by
  subst hN
  have h := rput_any a cap xs l k n w (by omega) hin
  rw [hL, hE] at h
  refine h.mono ?_
  rintro e w1 ⟨v, rfl, ho, hb⟩
  obtain ⟨b, c, rfl, hi⟩ := ins_own ho
  exact ⟨b, c, rfl, hi, hb⟩
theorem same_ins (a b0 : Option Addr) (cap cb : Nat) (L : List WrD) (w : World) (hin : InS w a L.length 4 (flat wrL L)) (hin2 : InS w b0 L.length 4 (flat wrL L)) : Calls Try.prog 14 #[.slice a L.length cap, .slice b0 L.length cb] w fun e w' => e = .returned (.bool true) ∧ Below w.heap.size w w' := by
  have h := same_any a b0 cap cb L L w hin hin2
  rw [decide_eq_true (rfl : L = L)] at h
  exact h
theorem few_ins (a : Option Addr) (N cap : Nat) (Z : Bool) (hZ : decide (N ≤ 60) = Z) (w : World) : Calls Try.prog 11 #[.slice a N cap] w fun e w' => e = .returned (.bool Z) ∧ Below w.heap.size w w' := by
  rw [← hZ]; exact few_any a N cap w
end Go.Proofs.Ytlmilalibgehpaa
