/- The law PriorityPuts. -/
import Derived.Test.YtlmilalibgehpaaU
import Derived.Test.YtlmilalibgehpaaT
namespace Go.Proofs.Ytlmilalibgehpaa
open Go.RowKit


set_option maxHeartbeats 4000000 in
set_option maxRecDepth 100000 in
theorem puts_law (a : Option Addr) (cap : Nat) (xs : List WrD) (l k n : Int) (w : World) (hin : InS w a xs.length 4 (flat wrL xs)) : Calls Try.prog 5 #[.slice a xs.length cap, .int .i64 l, .agg #[.int .i64 k, .int .i64 n]] w fun e w' => e = .returned (.bool true) ∧ Below w.heap.size w w' := by
  obtain ⟨E, hE⟩ : ∃ E, putE (bestS xs) l k n = E := ⟨_, rfl⟩
  obtain ⟨L, hL⟩ : ∃ L, putL (bestS xs) l k n = L := ⟨_, rfl⟩
  obtain ⟨N, hN⟩ : ∃ N, N = xs.length := ⟨_, rfl⟩
  obtain ⟨Z, hZ⟩ : ∃ Z, decide (N ≤ 60) = Z := ⟨_, rfl⟩
  have HP1' := Lib.hid (fun w1 (hb : Below w.heap.size w w1) h6 => put_ins a cap N xs hN l k n w1 h6 (hin.keep hb) L hL E hE)
  have HP2' := Lib.hid (fun w1 (hb : Below w.heap.size w w1) h6 => rput_ins a cap N xs hN l k n w1 h6 (hin.keep hb) L hL E hE)
  have HF := Lib.hid (few_ins a N cap Z hZ)
  have HZ := Lib.hid hZ
  rw [← hN]
  clear hE hL hN hZ hin
  have HAW := Lib.hid awake_yes
  obtain ⟨W, g0, hW, hg0, R0, B, sz⟩ := box1 w #[.int .i64 k, .int .i64 n] 23
  have HG := Lib.hid R0
  have HB := Lib.hid B
  clear R0 B sz
  go_enter Try.func5, Try.ntmps5
  go_wp2_with fail
  rw [← hW]
  try rw [← hg0]
  clear hW hg0
  refine (HAW.out _).mono ?_
  rintro e w1 ⟨rfl, hb⟩
  have HG1 := Lib.hid (HG.out.keep hb)
  have HB1 := Lib.hid (HB.out.trans (hb.mono HB.out.size))
  clear hb HAW HB HG
  go_wp2_with fail
  refine (HF.out _).mono ?_
  rintro e w2 ⟨rfl, hb⟩
  have HG2 := Lib.hid (HG1.out.keep hb)
  have HB2 := Lib.hid (HB1.out.trans (hb.mono HB1.out.size))
  clear hb HG1 HB1
  clear HF
  cases Z
  · go_wp2_with fail
    go_ret
    exact ⟨rfl, HB2.out⟩
  · have h6 : N ≤ 60 := of_decide_eq_true HZ.out
    have H6 := Lib.hid h6
    clear h6
    have go0 := HG2.out.c 0 _ rfl
    have go1 := HG2.out.c 1 _ rfl
    go_wp2_with fail
    refine (HP1'.out _ HB2.out H6.out).mono ?_
    rintro e w3 ⟨b3, c3, rfl, hi, hb⟩
    clear go0 go1
    have HG3 := Lib.hid (HG2.out.keep hb)
    have HP3 := Lib.hid hi
    have HB3 := Lib.hid (HB2.out.trans (hb.mono HB2.out.size))
    clear hb hi HG2 HB2
    have go0 := HG3.out.c 0 _ rfl
    have go1 := HG3.out.c 1 _ rfl
    go_wp2_with fail
    refine (HP2'.out _ HB3.out H6.out).mono ?_
    rintro e w4 ⟨b4, c4, rfl, hi, hb⟩
    clear go0 go1
    have HG4 := Lib.hid (HG3.out.keep hb)
    have HP4 := Lib.hid (HP3.out.keep hb)
    have HQ4 := Lib.hid hi
    have HB4 := Lib.hid (HB3.out.trans (hb.mono HB3.out.size))
    clear hb hi HG3 HP3 HB3
    go_wp2_with fail
    refine (same_ins _ _ _ _ L _ HP4.out HQ4.out).mono ?_
    rintro e w5 ⟨rfl, hb⟩
    have HB5 := Lib.hid (HB4.out.trans (hb.mono HB4.out.size))
    clear hb HG4 HP4 HQ4 HB4
    go_wp2_with fail
    go_ret
    exact ⟨rfl, HB5.out⟩
end Go.Proofs.Ytlmilalibgehpaa
