/- The law PriorityLate. -/
import Derived.Test.YtlmilalibgehpaaU
import Derived.Test.YtlmilalibgehpaaT
import Derived.Test.YtlmilalibgehpaaPm
namespace Go.Proofs.Ytlmilalibgehpaa
open Go.RowKit


set_option maxHeartbeats 8000000 in
set_option maxRecDepth 100000 in
theorem late_law (a : Option Addr) (cap : Nat) (xs : List WrD) (xl xq xk xn : Int) (w : World) (hin : InS w a xs.length 4 (flat wrL xs)) : Calls Try.prog 9 #[.slice a xs.length cap, .agg #[.int .i64 xl, .int .i64 xq, .int .i64 xk, .int .i64 xn]] w fun e w' => e = .returned (.bool true) ∧ Below w.heap.size w w' := by
  obtain ⟨E, hE⟩ : ∃ E, E = checkW ⟨xl, xq, xk, xn⟩ := ⟨_, rfl⟩
  have e1 := fun w => check_any xl xq xk xn w
  rw [← hE] at e1
  have HE1 := Lib.hid e1
  have HEE := Lib.hid hE
  obtain ⟨A, hA⟩ : ∃ L, writesL (bestS xs) = L := ⟨_, rfl⟩
  have HA16 := Lib.hid (show A.length ≤ 60 by rw [← hA]; exact Nat.le_trans (writes_len _) (by decide))
  obtain ⟨N, hN⟩ : ∃ N, N = xs.length := ⟨_, rfl⟩
  obtain ⟨Z, hZ⟩ : ∃ Z, decide (N ≤ 60) = Z := ⟨_, rfl⟩
  have HO1 := Lib.hid (fun w1 (hb : Below w.heap.size w w1) h6 => of_ins a cap N xs hN w1 h6 (hin.keep hb) A hA)
  have HJJ1 := Lib.hid (fun (h : bestS (xs ++ [⟨xl, xq, xk, xn⟩]) = bestS xs) aa cc ad w1 hI hX => join_ins aa (some ad) cc 1 A.length 1 A [⟨xl, xq, xk, xn⟩] rfl rfl w1 HA16.out (by decide) hI hX A (by have := late_left xs ⟨xl, xq, xk, xn⟩ h; rwa [hA] at this))
  have HJJ2 := Lib.hid (fun (h : bestS (xs ++ [⟨xl, xq, xk, xn⟩]) = bestS xs) ad w1 (hb : Below w.heap.size w w1) h6 hX => join_ins (some ad) a 1 cap 1 N [⟨xl, xq, xk, xn⟩] xs rfl hN w1 (by decide) h6 hX (hin.keep hb) A ((late_right xs ⟨xl, xq, xk, xn⟩ h).trans hA))
  have HLN := Lib.hid (fun y (hy : y ∈ A) hl hq => late_no xs ⟨xl, xq, xk, xn⟩ y (by rw [hA]; exact hy) hl hq)
  have HBN := Lib.hid (fun h => bad_no xs ⟨xl, xq, xk, xn⟩ h)
  have HF := Lib.hid (few_ins a N cap Z hZ)
  have HZ := Lib.hid hZ
  rw [← hN]
  clear e1 hE hA hN hZ hin
  have HAW := Lib.hid awake_yes
  obtain ⟨W, g0, hW, hg0, R0, B, sz⟩ := box1 w #[.int .i64 xl, .int .i64 xq, .int .i64 xk, .int .i64 xn] 25
  have HG := Lib.hid R0
  have HB := Lib.hid B
  clear R0 B sz
  go_enter Try.func9, Try.ntmps9
  go_wp2_with fail
  rw [← hW]
  try rw [← hg0]
  clear hW hg0
  refine (HAW.out _).mono ?_
  rintro e w1 ⟨rfl, hb⟩
  have HG1 := Lib.hid (HG.out.keep hb)
  have HB1 := Lib.hid (HB.out.trans (hb.mono HB.out.size))
  clear hb HAW HB HG
  go_wp2_with fail
  refine (HF.out _).mono ?_
  rintro e w2 ⟨rfl, hb⟩
  have HG2 := Lib.hid (HG1.out.keep hb)
  have HB2 := Lib.hid (HB1.out.trans (hb.mono HB1.out.size))
  clear hb HG1 HB1
  clear HF
  cases Z
  · go_wp2_with fail
    go_ret
    exact ⟨rfl, HB2.out⟩
  · have h6 : N ≤ 60 := of_decide_eq_true HZ.out
    have H6 := Lib.hid h6
    clear h6
    go_wp2_with fail
    refine (HO1.out _ HB2.out H6.out).mono ?_
    rintro e w3 ⟨b3, c3, rfl, hi, hb⟩
    have HG3 := Lib.hid (HG2.out.keep hb)
    have HA3 := Lib.hid hi
    have HB3 := Lib.hid (HB2.out.trans (hb.mono HB2.out.size))
    clear hb hi HG2 HB2
    obtain ⟨wA, hwA⟩ : ∃ x, x = w3 := ⟨_, rfl⟩
    rw [← hwA] at HA3 HG3 HB3 ⊢
    clear hwA
    have HLA := Lib.hid (show A.length ≤ 9223372036854775807 by have := HA16.out; omega)
    go_wp2_with fail
    go_loopw [6] (fun i wr => ∃ j : Nat, j ≤ A.length ∧ i = .int .i64 j ∧ Hid (Below wA.heap.size wA wr)) (fun i _ => A.length - (intOf i).toNat)
    case atStart => exact ⟨0, by omega, rfl, Lib.hid (Below.refl _ _)⟩
    case round =>
      obtain ⟨j, hj, rfl, hH⟩ := hrel
      have HG := Lib.hid (HG3.out.keep hH.out)
      have HA := Lib.hid (HA3.out.keep hH.out)
      have HB := Lib.hid (HB3.out.trans (hH.out.mono HB3.out.size))
      by_cases hlt : j < A.length
      · obtain ⟨d, o, hdo, hbl, hcell⟩ := HA.out.at wrL_len (by omega)
        subst hdo
        obtain ⟨y, hy⟩ : ∃ x, A[j]? = some x := ⟨_, List.getElem?_eq_getElem hlt⟩
        have HM := Lib.hid (List.mem_of_getElem? hy)
        obtain ⟨yl, yq, yk, yn⟩ := y
        have q0 := hcell j _ hy 0 _ rfl
        have q1 := hcell j _ hy 1 _ rfl
        rw [Nat.add_zero] at q0
        have k1 : (0 : Int) ≤ (j : Int) := by omega
        have k2 : (j : Int) < (A.length : Int) := by omega
        have k3 : A.length ≤ 60 := HA16.out
        clear hcell hy hbl
        have go0 := HG.out.c 0 _ rfl
        have go1 := HG.out.c 1 _ rfl
        have go2 := HG.out.c 2 _ rfl
        have go3 := HG.out.c 3 _ rfl
        by_cases hl : yl = xl
        · by_cases hq : xq < yq
          · have HNO := Lib.hid (HLN.out ⟨yl, yq, yk, yn⟩ HM.out (by exact hl) (by exact hq))
            obtain rfl := hl.symm
            go_wp2_with fail
            go_quiet (fail)
            obtain ⟨W, hW⟩ : ∃ W, W = wr.drewN nq := ⟨_, rfl⟩
            have hbw : Below wr.heap.size wr W := by rw [hW]; exact bdrewN (Below.refl _ _) _
            rw [← hW]
            have HG20 := Lib.hid (HG.out.keep hbw)
            have HA20 := Lib.hid (HA.out.keep hbw)
            have HB20 := Lib.hid (HB.out.trans (hbw.mono HB.out.size))
            clear hW hbw q0 q1 HG HA HB
            clear go0 go1 go2 go3
            have go0 := HG20.out.c 0 _ rfl
            have go1 := HG20.out.c 1 _ rfl
            have go2 := HG20.out.c 2 _ rfl
            have go3 := HG20.out.c 3 _ rfl
            have HG_ := HG20
            have HA_ := HA20
            have HB_ := HB20
            clear HG20 HA20 HB20
            have hk := (Below.refl W.heap.size W).alloc (Nat.le_refl _) (Obj.cells #[.int .i64 xl, .int .i64 xq, .int .i64 xk, .int .i64 xn] 25)
            have HG21 := Lib.hid (HG_.out.keep hk)
            have HA21 := Lib.hid (HA_.out.keep hk)
            have HX21 := Lib.hid (ins_freshN W #[.int .i64 xl, .int .i64 xq, .int .i64 xk, .int .i64 xn] 25 1 4 rfl (by decide))
            have HB21 := Lib.hid (HB_.out.trans (hk.mono HB_.out.size))
            clear hk HG_ HA_ HB_
            go_wp2_with fail
            refine (HJJ1.out HNO.out _ _ _ _ HA21.out HX21.out).mono ?_
            rintro e w22 ⟨b22, c22, rfl, hi, hb⟩
            have HG22 := Lib.hid (HG21.out.keep hb)
            have HA22 := Lib.hid (HA21.out.keep hb)
            have HC22 := Lib.hid hi
            have HB22 := Lib.hid (HB21.out.trans (hb.mono HB21.out.size))
            clear hb hi HG21 HA21 HB21 HX21 go0 go1 go2 go3
            go_wp2_with fail
            refine (same_ins _ _ _ _ A _ HC22.out HA22.out).mono ?_
            rintro e w23 ⟨rfl, hb⟩
            have HG23 := Lib.hid (HG22.out.keep hb)
            have HA23 := Lib.hid (HA22.out.keep hb)
            have HB23 := Lib.hid (HB22.out.trans (hb.mono HB22.out.size))
            clear hb HG22 HA22 HB22 HC22
            have go0 := HG23.out.c 0 _ rfl
            have go1 := HG23.out.c 1 _ rfl
            have go2 := HG23.out.c 2 _ rfl
            have go3 := HG23.out.c 3 _ rfl
            have HG_ := HG23
            have HA_ := HA23
            have HB_ := HB23
            clear HG23 HA23 HB23
            have hk := (Below.refl w23.heap.size w23).alloc (Nat.le_refl _) (Obj.cells #[.int .i64 xl, .int .i64 xq, .int .i64 xk, .int .i64 xn] 25)
            have HG24 := Lib.hid (HG_.out.keep hk)
            have HA24 := Lib.hid (HA_.out.keep hk)
            have HX24 := Lib.hid (ins_freshN w23 #[.int .i64 xl, .int .i64 xq, .int .i64 xk, .int .i64 xn] 25 1 4 rfl (by decide))
            have HB24 := Lib.hid (HB_.out.trans (hk.mono HB_.out.size))
            clear hk HG_ HA_ HB_
            go_wp2_with fail
            refine (HJJ2.out HNO.out _ _ HB24.out H6.out HX24.out).mono ?_
            rintro e w25 ⟨b25, c25, rfl, hi, hb⟩
            have HA25 := Lib.hid (HA24.out.keep hb)
            have HC25 := Lib.hid hi
            have HB25 := Lib.hid (HB24.out.trans (hb.mono HB24.out.size))
            clear hb hi HG24 HA24 HB24 HX24 go0 go1 go2 go3
            go_wp2_with fail
            refine (same_ins _ _ _ _ A _ HC25.out HA25.out).mono ?_
            rintro e w26 ⟨rfl, hb⟩
            have HB26 := Lib.hid (HB25.out.trans (hb.mono HB25.out.size))
            clear hb
            go_wp2_with fail
            go_ret
            exact ⟨rfl, HB26.out⟩
          · obtain rfl := hl.symm
            go_wp2_with fail
            go_quiet (fail)
            go_wp2_with fail
            go_roundw
            case rel => exact ⟨j + 1, by omega, by go_num, Lib.hid (bdrewN hH.out _)⟩
            case measure => simp [intOf]; omega
        · have t1 : (yl == xl) = false := by rw [beq_eq_false_iff_ne]; exact hl
          clear hl
          go_wp2_with fail
          go_quiet (fail)
          go_wp2_with fail
          go_roundw
          case rel => exact ⟨j + 1, by omega, by go_num, Lib.hid (bdrewN hH.out _)⟩
          case measure => simp [intOf]; omega
      · obtain rfl : j = A.length := by omega
        have HG20 := HG
        have HA20 := HA
        have HB20 := HB
        clear HG HA HB
        have go0 := HG20.out.c 0 _ rfl
        have go1 := HG20.out.c 1 _ rfl
        have go2 := HG20.out.c 2 _ rfl
        have go3 := HG20.out.c 3 _ rfl
        go_wp2_with fail
        refine (HE1.out _).mono ?_
        rintro e w20 ⟨rfl, hb⟩
        have HG20 := Lib.hid (HG20.out.keep hb)
        have HA20 := Lib.hid (HA20.out.keep hb)
        have HB20 := Lib.hid (HB20.out.trans (hb.mono HB20.out.size))
        clear hb go0 go1 go2 go3
        by_cases h0 : E = 0
        · subst h0
          go_wp2_with fail
          go_ret
          exact ⟨rfl, HB20.out⟩
        · have HNO := Lib.hid (HBN.out (by rw [← HEE.out]; exact h0))
          have t1 : (E != 0) = true := by simpa using h0
          clear h0
          have go0 := HG20.out.c 0 _ rfl
          have go1 := HG20.out.c 1 _ rfl
          have go2 := HG20.out.c 2 _ rfl
          have go3 := HG20.out.c 3 _ rfl
          have HG_ := HG20
          have HA_ := HA20
          have HB_ := HB20
          clear HG20 HA20 HB20
          have hk := (Below.refl w20.heap.size w20).alloc (Nat.le_refl _) (Obj.cells #[.int .i64 xl, .int .i64 xq, .int .i64 xk, .int .i64 xn] 25)
          have HG21 := Lib.hid (HG_.out.keep hk)
          have HA21 := Lib.hid (HA_.out.keep hk)
          have HX21 := Lib.hid (ins_freshN w20 #[.int .i64 xl, .int .i64 xq, .int .i64 xk, .int .i64 xn] 25 1 4 rfl (by decide))
          have HB21 := Lib.hid (HB_.out.trans (hk.mono HB_.out.size))
          clear hk HG_ HA_ HB_
          go_wp2_with fail
          refine (HJJ1.out HNO.out _ _ _ _ HA21.out HX21.out).mono ?_
          rintro e w22 ⟨b22, c22, rfl, hi, hb⟩
          have HG22 := Lib.hid (HG21.out.keep hb)
          have HA22 := Lib.hid (HA21.out.keep hb)
          have HC22 := Lib.hid hi
          have HB22 := Lib.hid (HB21.out.trans (hb.mono HB21.out.size))
          clear hb hi HG21 HA21 HB21 HX21 go0 go1 go2 go3
          go_wp2_with fail
          refine (same_ins _ _ _ _ A _ HC22.out HA22.out).mono ?_
          rintro e w23 ⟨rfl, hb⟩
          have HG23 := Lib.hid (HG22.out.keep hb)
          have HA23 := Lib.hid (HA22.out.keep hb)
          have HB23 := Lib.hid (HB22.out.trans (hb.mono HB22.out.size))
          clear hb HG22 HA22 HB22 HC22
          go_wp2_with fail
          go_ret
          exact ⟨rfl, HB23.out⟩
end Go.Proofs.Ytlmilalibgehpaa
