/- The law PriorityArrays. -/
import Derived.Test.YtlmilalibgehpaaU
import Derived.Test.YtlmilalibgehpaaT
namespace Go.Proofs.Ytlmilalibgehpaa
open Go.RowKit


set_option maxHeartbeats 8000000 in
set_option maxRecDepth 100000 in
theorem arrays_law (xl xq xk xn : Int) (a a2 a3 : Option Addr) (cap cap2 cap3 : Nat) (xs ys : List WrD) (ls : List Int) (w : World) (hin : InS w a xs.length 4 (flat wrL xs)) (hin2 : InS w a2 ys.length 4 (flat wrL ys)) (hin3 : InS w a3 ls.length 1 (flat iL ls)) : Calls Try.prog 3 #[.agg #[.int .i64 xl, .int .i64 xq, .int .i64 xk, .int .i64 xn], .slice a xs.length cap, .slice a2 ys.length cap2, .slice a3 ls.length cap3] w fun e w' => e = .returned (.bool true) ∧ Below w.heap.size w w' := by
  obtain ⟨E, hE⟩ : ∃ E, E = checkW ⟨xl, xq, xk, xn⟩ := ⟨_, rfl⟩
  have e1 := fun w => check_any xl xq xk xn w
  have e2 := fun w => rcheck_any xl xq xk xn w
  rw [← hE] at e1 e2
  have HE1 := Lib.hid e1
  have HE2 := Lib.hid e2
  obtain ⟨LO, hLO⟩ : ∃ L, writesL (bestS xs) = L := ⟨_, rfl⟩
  obtain ⟨LJ, hLJ⟩ : ∃ L, writesL (bestS (xs ++ ys)) = L := ⟨_, rfl⟩
  obtain ⟨LK, hLK⟩ : ∃ L, writesL (keepF (bestS xs) ls) = L := ⟨_, rfl⟩
  have hLK2 : (writesL (bestS xs)).filter (lsB ls) = LK := (keep_writes xs ls).symm.trans hLK
  obtain ⟨N, hN⟩ : ∃ N, N = xs.length := ⟨_, rfl⟩
  obtain ⟨K, hK⟩ : ∃ N, N = ys.length := ⟨_, rfl⟩
  obtain ⟨M, hM⟩ : ∃ N, N = ls.length := ⟨_, rfl⟩
  obtain ⟨Z, hZ⟩ : ∃ Z, decide (N ≤ 60) = Z := ⟨_, rfl⟩
  obtain ⟨Y, hY⟩ : ∃ Z, decide (K ≤ 60) = Z := ⟨_, rfl⟩
  have HO1 := Lib.hid (fun w1 (hb : Below w.heap.size w w1) h6 => of_ins a cap N xs hN w1 h6 (hin.keep hb) LO hLO)
  have HO2 := Lib.hid (fun w1 (hb : Below w.heap.size w w1) h6 => rof_ins a cap N xs hN w1 h6 (hin.keep hb) LO hLO)
  have HJ1 := Lib.hid (fun w1 (hb : Below w.heap.size w w1) h6 h7 => join_ins a a2 cap cap2 N K xs ys hN hK w1 h6 h7 (hin.keep hb) (hin2.keep hb) LJ hLJ)
  have HJ2 := Lib.hid (fun w1 (hb : Below w.heap.size w w1) h6 h7 => rjoin_ins a a2 cap cap2 N K xs ys hN hK w1 h6 h7 (hin.keep hb) (hin2.keep hb) LJ hLJ)
  have HK1 := Lib.hid (fun w1 (hb : Below w.heap.size w w1) h6 => keep_ins a a3 cap cap3 N M xs ls hN hM w1 h6 (hin.keep hb) (hin3.keep hb) LK hLK)
  have HK2 := Lib.hid (fun w1 (hb : Below w.heap.size w w1) h6 => rkeep_ins a a3 cap cap3 N M xs ls hN hM w1 h6 (hin.keep hb) (hin3.keep hb) LK hLK2)
  have HF := Lib.hid (few_ins a N cap Z hZ)
  have HF2 := Lib.hid (few_ins a2 K cap2 Y hY)
  have HZ := Lib.hid hZ
  have HY := Lib.hid hY
  rw [← hN, ← hK, ← hM]
  clear e1 e2 hE hLO hLJ hLK hLK2 hN hK hM hZ hY hin hin2 hin3
  have HAW := Lib.hid awake_yes
  obtain ⟨W, g0, hW, hg0, R0, B, sz⟩ := box1 w #[.int .i64 xl, .int .i64 xq, .int .i64 xk, .int .i64 xn] 25
  have HG := Lib.hid R0
  have HB := Lib.hid B
  clear R0 B sz
  go_enter Try.func3, Try.ntmps3
  go_wp2_with fail
  rw [← hW]
  try rw [← hg0]
  clear hW hg0
  refine (HAW.out _).mono ?_
  rintro e w1 ⟨rfl, hb⟩
  have HG1 := Lib.hid (HG.out.keep hb)
  have HB1 := Lib.hid (HB.out.trans (hb.mono HB.out.size))
  clear hb HAW HB HG
  go_wp2_with fail
  refine (HF.out _).mono ?_
  rintro e w2 ⟨rfl, hb⟩
  have HG2 := Lib.hid (HG1.out.keep hb)
  have HB2 := Lib.hid (HB1.out.trans (hb.mono HB1.out.size))
  clear hb HG1 HB1
  clear HF
  cases Z
  · go_wp2_with fail
    go_ret
    exact ⟨rfl, HB2.out⟩
  · have h6 : N ≤ 60 := of_decide_eq_true HZ.out
    have H6 := Lib.hid h6
    clear h6
    go_wp2_with fail
    refine (HF2.out _).mono ?_
    rintro e w3 ⟨rfl, hb⟩
    have HG3 := Lib.hid (HG2.out.keep hb)
    have HB3 := Lib.hid (HB2.out.trans (hb.mono HB2.out.size))
    clear hb HG2 HB2
    clear HF2
    cases Y
    · go_wp2_with fail
      go_ret
      exact ⟨rfl, HB3.out⟩
    · have h7 : K ≤ 60 := of_decide_eq_true HY.out
      have H7 := Lib.hid h7
      clear h7
      by_cases h8 : 60 < M
      · go_wp2_with fail
        go_ret
        exact ⟨rfl, HB3.out⟩
      · have HC := Lib.hid (show A1 w3 g0 xl xq xk xn w3 from ⟨HG3.out.c 0 _ rfl, HG3.out.c 1 _ rfl, HG3.out.c 2 _ rfl, HG3.out.c 3 _ rfl, Below.refl _ _⟩)
        have HCD := Lib.hid (show A1 w3 g0 xl xq xk xn w3.drew from a1_of HC.out (Below.refl _ _).drew)
        have go0 := HG3.out.c 0 _ rfl
        have go1 := HG3.out.c 1 _ rfl
        have go2 := HG3.out.c 2 _ rfl
        have go3 := HG3.out.c 3 _ rfl
        go_upto_region 5 with fail
        go_region_held3 (fun w' => w'.cell? ⟨g0, 0, none⟩ = some (.int .i64 xl) ∧ w'.cell? ⟨g0, 1, none⟩ = some (.int .i64 xq) ∧ w'.cell? ⟨g0, 2, none⟩ = some (.int .i64 xk) ∧ w'.cell? ⟨g0, 3, none⟩ = some (.int .i64 xn) ∧ Below w3.heap.size w3 w')
          (first | (with_reducible exact HC.out) | (with_reducible exact HCD.out) | (with_reducible exact HS1.out) | (with_reducible exact HS2.out) | (with_reducible exact HS3.out) | (with_reducible exact HS4.out) | (with_reducible exact HS5.out) | (with_reducible exact HS6.out) | (with_reducible exact HS7.out) | (with_reducible exact HS8.out) | (with_reducible exact HS9.out) | (with_reducible exact HS10.out) | (with_reducible exact HS11.out) | go_keep)
          (first | (go_at_call 12; refine (HE1.out _).mono ?_; rintro e x1 ⟨rfl, hb2⟩; have KB1 : Hid (Below w3.heap.size w3 x1) := (by first | exact hb2 | exact (Below.refl _ _).drew.trans hb2); have HS1 : Hid (A1 w3 g0 xl xq xk xn x1) := (a1_of HC.out KB1.out)) | (go_at_call 13; refine (HE2.out _).mono ?_; rintro e x2 ⟨rfl, hb2⟩; have KB2 : Hid (Below w3.heap.size w3 x2) := (KB1.out.trans (hb2.mono KB1.out.size)); have HS2 : Hid (A1 w3 g0 xl xq xk xn x2) := (a1_of HC.out KB2.out)) | (go_at_call 15; refine (HO1.out _ (HB3.out.trans (KB2.out.mono HB3.out.size)) H6.out).mono ?_; rintro e x3 ⟨b3, c3, rfl, hi, hb2⟩; have KB3 : Hid (Below w3.heap.size w3 x3) := (KB2.out.trans (hb2.mono KB2.out.size)); have HOa_3 := Lib.hid hi; have HS3 : Hid (A1 w3 g0 xl xq xk xn x3) := (a1_of HC.out KB3.out)) | (go_at_call 16; refine (HO2.out _ (HB3.out.trans (KB3.out.mono HB3.out.size)) H6.out).mono ?_; rintro e x4 ⟨b4, c4, rfl, hi, hb2⟩; have KB4 : Hid (Below w3.heap.size w3 x4) := (KB3.out.trans (hb2.mono KB3.out.size)); have HOa_4 := Lib.hid (HOa_3.out.keep hb2); have HOb_4 := Lib.hid hi; have HS4 : Hid (A1 w3 g0 xl xq xk xn x4) := (a1_of HC.out KB4.out)) | (go_at_call 14; (with_reducible refine (same_ins _ _ _ _ LO _ HOa_4.out HOb_4.out).mono ?_); rintro e x5 ⟨rfl, hb2⟩; have KB5 : Hid (Below w3.heap.size w3 x5) := (KB4.out.trans (hb2.mono KB4.out.size)); have HS5 : Hid (A1 w3 g0 xl xq xk xn x5) := (a1_of HC.out KB5.out)) | (go_at_call 17; refine (HJ1.out _ (HB3.out.trans (KB5.out.mono HB3.out.size)) H6.out H7.out).mono ?_; rintro e x6 ⟨b6, c6, rfl, hi, hb2⟩; have KB6 : Hid (Below w3.heap.size w3 x6) := (KB5.out.trans (hb2.mono KB5.out.size)); have HOc_6 := Lib.hid hi; have HS6 : Hid (A1 w3 g0 xl xq xk xn x6) := (a1_of HC.out KB6.out)) | (go_at_call 18; refine (HJ2.out _ (HB3.out.trans (KB6.out.mono HB3.out.size)) H6.out H7.out).mono ?_; rintro e x7 ⟨b7, c7, rfl, hi, hb2⟩; have KB7 : Hid (Below w3.heap.size w3 x7) := (KB6.out.trans (hb2.mono KB6.out.size)); have HOc_7 := Lib.hid (HOc_6.out.keep hb2); have HOd_7 := Lib.hid hi; have HS7 : Hid (A1 w3 g0 xl xq xk xn x7) := (a1_of HC.out KB7.out)) | (go_at_call 14; (with_reducible refine (same_ins _ _ _ _ LJ _ HOc_7.out HOd_7.out).mono ?_); rintro e x8 ⟨rfl, hb2⟩; have KB8 : Hid (Below w3.heap.size w3 x8) := (KB7.out.trans (hb2.mono KB7.out.size)); have HS8 : Hid (A1 w3 g0 xl xq xk xn x8) := (a1_of HC.out KB8.out)) | (go_at_call 19; refine (HK1.out _ (HB3.out.trans (KB8.out.mono HB3.out.size)) H6.out).mono ?_; rintro e x9 ⟨b9, c9, rfl, hi, hb2⟩; have KB9 : Hid (Below w3.heap.size w3 x9) := (KB8.out.trans (hb2.mono KB8.out.size)); have HOe_9 := Lib.hid hi; have HS9 : Hid (A1 w3 g0 xl xq xk xn x9) := (a1_of HC.out KB9.out)) | (go_at_call 20; refine (HK2.out _ (HB3.out.trans (KB9.out.mono HB3.out.size)) H6.out).mono ?_; rintro e x10 ⟨b10, c10, rfl, hi, hb2⟩; have KB10 : Hid (Below w3.heap.size w3 x10) := (KB9.out.trans (hb2.mono KB9.out.size)); have HOe_10 := Lib.hid (HOe_9.out.keep hb2); have HOf_10 := Lib.hid hi; have HS10 : Hid (A1 w3 g0 xl xq xk xn x10) := (a1_of HC.out KB10.out)) | (go_at_call 14; (with_reducible refine (same_ins _ _ _ _ LK _ HOe_10.out HOf_10.out).mono ?_); rintro e x11 ⟨rfl, hb2⟩; have KB11 : Hid (Below w3.heap.size w3 x11) := (KB10.out.trans (hb2.mono KB10.out.size)); have HS11 : Hid (A1 w3 g0 xl xq xk xn x11) := (a1_of HC.out KB11.out)))
        all_goals
          rename_i hHeld
          have hk := hHeld.2.2.2.2
          have hB := HB3.out.trans (hk.mono HB3.out.size)
          clear hHeld hk
          go_wp2_with fail
          go_ret
          exact ⟨rfl, hB⟩
end Go.Proofs.Ytlmilalibgehpaa
