/- The law Tracks: a controller that was tracked goes on from the output as long as its error is 0. -/
import Derived.Test.YtepmeacdacnhmaaPx
namespace Go.Proofs.Ytepmeacdacnhmaa
open Go.RowKit

theorem subI_self (n : Int) : subI n n = 0 := by unfold subI clampI; omega
theorem propI_zero (kp : Int) (rv : Bool) (n : Int) : propI kp rv n n = 0 := by
  unfold propI errI
  rw [subI_self, ite_self]
  unfold mulDivI
  rw [show clampI 0 = 0 by decide, Int.mul_zero]
  rfl
theorem trk_zero (kp lo hi : Int) (rv : Bool) (n o : Int) : trkI kp lo hi rv n n o = limI o lo hi := by unfold trkI; rw [propI_zero]; omega
theorem still (ti lo hi M n : Int) (h0 : lo ≤ M) (h1 : M ≤ hi) : newS ti lo hi M 0 0 n = M ∧ newR ti lo hi M 0 0 n = 0 := by
  have hT : totI 0 0 n = 0 := by unfold totI; rw [Int.zero_mul]; rfl
  have hs : newS ti lo hi M 0 0 n = M := by unfold newS sumI limI; rw [hT, Int.zero_tdiv]; omega
  refine ⟨hs, ?_⟩
  unfold newR
  rw [hT, Int.zero_tmod, ite_self]
/-- a tracked controller's scan -/
theorem track_scan (kp ti lo hi : Int) (rv : Bool) (set M n : Int) (h0 : lo ≤ M) (h1 : M ≤ hi) : ctlV kp ti lo hi rv true M 0 set set n = .tuple #[.agg #[.bool true, .int .i64 M, .int .i64 0], .int .i64 M, .int .i64 0] := by
  have h := still ti lo hi M n h0 h1
  unfold ctlV
  rw [propI_zero, show begS true lo 0 M = M from rfl, show begR true 0 = 0 from rfl, h.1, h.2, Int.zero_add]
set_option maxHeartbeats 4000000 in
theorem track_zero (kp lo hi : Int) (rv : Bool) (set now o : Int) (w : World) (hs : setB kp 0 lo hi = true) :
    Calls Try.prog 10 #[.agg #[.int .i64 kp, .int .i64 0, .int .i64 lo, .int .i64 hi, .bool rv], .int .i64 set, .int .i64 now, .int .i64 o] w fun e w' => e = .returned (.tuple #[.agg #[.bool true, .int .i64 lo, .int .i64 0], .int .i64 0]) ∧ Below w.heap.size w w' := by
  have KC := Lib.hid (fun w => show Calls Try.prog 19 #[.agg #[.int .i64 kp, .int .i64 0, .int .i64 lo, .int .i64 hi, .bool rv]] w fun e w' => e = .returned (.int .i64 0) ∧ Below w.heap.size w w' by have h := check_any kp 0 lo hi rv w; rw [if_pos hs] at h; exact h)
  obtain ⟨W, g, r, hW, hg, hr, RG, RR, B, sz⟩ := box2 w #[.int .i64 kp, .int .i64 0, .int .i64 lo, .int .i64 hi, .bool rv] 26 #[.bool false, .int .i64 0, .int .i64 0] 28
  have hwr : w.heap.size ≤ r := by omega
  have HWR := Lib.hid hwr
  have HG := Lib.hid RG
  have HR := Lib.hid RR
  have HB := Lib.hid B
  go_enter Try.func10, Try.ntmps10
  go_upto_region 1 with fail
  rw [← hW]
  try rw [← hr]
  try rw [← hg]
  clear hW hg hr sz RG RR B hwr hs
  have g_0 := HG.out.c 0 _ rfl
  have g_1 := HG.out.c 1 _ rfl
  have g_2 := HG.out.c 2 _ rfl
  have g_3 := HG.out.c 3 _ rfl
  have g_4 := HG.out.c 4 _ rfl
  go_wp2_with fail
  refine (KC.out _).mono ?_
  rintro e w1 ⟨rfl, hb⟩
  clear g_0 g_1 g_2 g_3 g_4
  have HG1 := Lib.hid (HG.out.keep hb)
  have HR1 := Lib.hid (HR.out.keep hb)
  have HB1 := Lib.hid (HB.out.trans (hb.mono HB.out.size))
  clear hb
  have g_0 := HG1.out.c 0 _ rfl
  have g_1 := HG1.out.c 1 _ rfl
  have g_2 := HG1.out.c 2 _ rfl
  have g_3 := HG1.out.c 3 _ rfl
  have g_4 := HG1.out.c 4 _ rfl
  have r_0 := HR1.out.c 0 _ rfl
  have r_1 := HR1.out.c 1 _ rfl
  have r_2 := HR1.out.c 2 _ rfl
  have r_z := HR1.out.fz
  go_wp2_with fail
  have hs := HR1.out.setRow [.bool true, .int .i64 lo, .int .i64 0] rfl
  have hB := (set_below HB1.out HWR.out [.bool true, .int .i64 lo, .int .i64 0])
  have y0 : (((w1.setCell ⟨r, 0, none⟩ (.bool true)).setCell ⟨r, 1, none⟩ (.int .i64 lo)).setCell ⟨r, 2, none⟩ (.int .i64 0)).cell? ⟨r, 0, none⟩ = some (.bool true) := hs.c 0 _ rfl
  have y1 : (((w1.setCell ⟨r, 0, none⟩ (.bool true)).setCell ⟨r, 1, none⟩ (.int .i64 lo)).setCell ⟨r, 2, none⟩ (.int .i64 0)).cell? ⟨r, 1, none⟩ = some (.int .i64 lo) := hs.c 1 _ rfl
  have y2 : (((w1.setCell ⟨r, 0, none⟩ (.bool true)).setCell ⟨r, 1, none⟩ (.int .i64 lo)).setCell ⟨r, 2, none⟩ (.int .i64 0)).cell? ⟨r, 2, none⟩ = some (.int .i64 0) := hs.c 2 _ rfl
  (try simp only [Exit.inBlock, Exit.then])
  refine bodyPost_ret (by simp [results, Try.results10, go_sem, y0, y1, y2]; try rfl) rfl ?_
  exact ⟨rfl, hB⟩
set_option maxHeartbeats 4000000 in
set_option maxRecDepth 100000 in
theorem tracks_law (kp ti lo hi : Int) (rv : Bool) (s o d n : Int) (w : World) : Calls Try.prog 4 #[.agg #[.int .i64 kp, .int .i64 ti, .int .i64 lo, .int .i64 hi, .bool rv], .int .i64 s, .int .i64 o, .int .i64 d, .int .i64 n] w fun e w' => e = .returned (.bool true) ∧ Below w.heap.size w w' := by
  have HAW := Lib.hid awake_yes
  obtain ⟨W, f, g, hW, hf, hg, RF, RG, B, sz⟩ := box2 w #[.int .i64 kp, .int .i64 ti, .int .i64 lo, .int .i64 hi, .bool rv] 23 #[.int .i64 kp, .int .i64 ti, .int .i64 lo, .int .i64 hi, .bool rv] 26
  have HF := Lib.hid RF
  have HG := Lib.hid RG
  have HB := Lib.hid B
  go_enter Try.func4, Try.ntmps4
  go_upto_region 2 with fail
  rw [← hW]
  try rw [← hg]
  try rw [← hf]
  clear hW hf hg sz RF RG B
  by_cases hs : setB kp ti lo hi = true
  · have HS := Lib.hid hs
    by_cases ht : ti = 0
    · have g_0 := HG.out.c 0 _ rfl
      have g_1 := HG.out.c 1 _ rfl
      have g_2 := HG.out.c 2 _ rfl
      have g_3 := HG.out.c 3 _ rfl
      have g_4 := HG.out.c 4 _ rfl
      subst ht
      have KT := Lib.hid (fun w => track_zero kp lo hi rv s s o w HS.out)
      go_wp2_with fail
      refine (KT.out _).mono ?_
      rintro e w1 ⟨rfl, hb⟩
      clear g_0 g_1 g_2 g_3 g_4
      obtain ⟨V, x, hV, hx, RX, BX, sx⟩ := box1 w1 #[.bool true, .int .i64 lo, .int .i64 0] 28
      have hbb := hb.trans (BX.mono hb.size)
      have HF1 := Lib.hid (HF.out.keep hbb)
      have HG1 := Lib.hid (HG.out.keep hbb)
      have HB1 := Lib.hid (HB.out.trans (hbb.mono HB.out.size))
      clear HF HG HB
      go_upto_region 3 with fail
      rw [← hV]
      try rw [← hx]
      clear hV hx RX BX sx hb hbb
      by_cases h1 : d < 1
      · have HB3 := Lib.hid HB1.out
        have f_0 := HF1.out.c 0 _ rfl
        have f_1 := HF1.out.c 1 _ rfl
        have f_2 := HF1.out.c 2 _ rfl
        have f_3 := HF1.out.c 3 _ rfl
        have f_4 := HF1.out.c 4 _ rfl
        go_wp2_with fail
        refine (HAW.out _).mono ?_
        rintro e wz ⟨rfl, hb⟩
        go_wp2_with fail
        go_ret
        exact ⟨rfl, HB3.out.trans (hb.mono HB3.out.size)⟩
      · by_cases h2 : 86400 < d
        · have HB3 := Lib.hid HB1.out
          have f_0 := HF1.out.c 0 _ rfl
          have f_1 := HF1.out.c 1 _ rfl
          have f_2 := HF1.out.c 2 _ rfl
          have f_3 := HF1.out.c 3 _ rfl
          have f_4 := HF1.out.c 4 _ rfl
          go_wp2_with fail
          refine (HAW.out _).mono ?_
          rintro e wz ⟨rfl, hb⟩
          go_wp2_with fail
          go_ret
          exact ⟨rfl, HB3.out.trans (hb.mono HB3.out.size)⟩
        · have HB3 := Lib.hid HB1.out
          have f_0 := HF1.out.c 0 _ rfl
          have f_1 := HF1.out.c 1 _ rfl
          have f_2 := HF1.out.c 2 _ rfl
          have f_3 := HF1.out.c 3 _ rfl
          have f_4 := HF1.out.c 4 _ rfl
          go_wp2_with fail
          refine (HAW.out _).mono ?_
          rintro e wz ⟨rfl, hb⟩
          go_wp2_with fail
          go_ret
          exact ⟨rfl, HB3.out.trans (hb.mono HB3.out.size)⟩
    · have g_0 := HG.out.c 0 _ rfl
      have g_1 := HG.out.c 1 _ rfl
      have g_2 := HG.out.c 2 _ rfl
      have g_3 := HG.out.c 3 _ rfl
      have g_4 := HG.out.c 4 _ rfl
      obtain ⟨M, hM⟩ : ∃ m, m = limI o lo hi := ⟨_, rfl⟩
      have HT := Lib.hid ht
      have KT := Lib.hid (fun w => show Calls Try.prog 10 #[.agg #[.int .i64 kp, .int .i64 ti, .int .i64 lo, .int .i64 hi, .bool rv], .int .i64 s, .int .i64 s, .int .i64 o] w fun e w' => e = .returned (.tuple #[.agg #[.bool true, .int .i64 M, .int .i64 0], .int .i64 0]) ∧ Below w.heap.size w w' by have h := track_yes kp ti lo hi rv s s o w HS.out ht; rw [trk_zero, ← hM] at h; exact h)
      have HMM := Lib.hid hM
      clear ht hM
      go_wp2_with fail
      refine (KT.out _).mono ?_
      rintro e w1 ⟨rfl, hb⟩
      clear g_0 g_1 g_2 g_3 g_4
      obtain ⟨V, x, hV, hx, RX, BX, sx⟩ := box1 w1 #[.bool true, .int .i64 M, .int .i64 0] 28
      have hbb := hb.trans (BX.mono hb.size)
      have HX1 := Lib.hid RX
      have hxf : w.heap.size ≤ x := by have := hb.size; have := HB.out.size; omega
      have HXW := Lib.hid hxf
      have hgx : x ≠ g := by have := HG.out.lt; have := hb.size; omega
      have hfx : x ≠ f := by have := HF.out.lt; have := hb.size; omega
      have HF1 := Lib.hid (HF.out.keep hbb)
      have HG1 := Lib.hid (HG.out.keep hbb)
      have HB1 := Lib.hid (HB.out.trans (hbb.mono HB.out.size))
      clear HF HG HB
      go_upto_region 3 with fail
      rw [← hV]
      try rw [← hx]
      clear hV hx RX BX sx hb hbb hxf
      by_cases h1 : d < 1
      · have HB3 := Lib.hid HB1.out
        have f_0 := HF1.out.c 0 _ rfl
        have f_1 := HF1.out.c 1 _ rfl
        have f_2 := HF1.out.c 2 _ rfl
        have f_3 := HF1.out.c 3 _ rfl
        have f_4 := HF1.out.c 4 _ rfl
        go_wp2_with fail
        refine (HAW.out _).mono ?_
        rintro e wz ⟨rfl, hb⟩
        go_wp2_with fail
        go_ret
        exact ⟨rfl, HB3.out.trans (hb.mono HB3.out.size)⟩
      · by_cases h2 : 86400 < d
        · have HB3 := Lib.hid HB1.out
          have f_0 := HF1.out.c 0 _ rfl
          have f_1 := HF1.out.c 1 _ rfl
          have f_2 := HF1.out.c 2 _ rfl
          have f_3 := HF1.out.c 3 _ rfl
          have f_4 := HF1.out.c 4 _ rfl
          go_wp2_with fail
          refine (HAW.out _).mono ?_
          rintro e wz ⟨rfl, hb⟩
          go_wp2_with fail
          go_ret
          exact ⟨rfl, HB3.out.trans (hb.mono HB3.out.size)⟩
        · by_cases h3 : 30 < n
          · have hti : ¬ ti = 0 := HT.out
            have HB3 := Lib.hid HB1.out
            have f_0 := HF1.out.c 0 _ rfl
            have f_1 := HF1.out.c 1 _ rfl
            have f_2 := HF1.out.c 2 _ rfl
            have f_3 := HF1.out.c 3 _ rfl
            have f_4 := HF1.out.c 4 _ rfl
            go_wp2_with fail
            refine (HAW.out _).mono ?_
            rintro e wz ⟨rfl, hb⟩
            go_wp2_with fail
            go_ret
            exact ⟨rfl, HB3.out.trans (hb.mono HB3.out.size)⟩
          · have h30 : n ≤ 30 := by omega
            have hlim := limI_range o lo hi (set_of HS.out).2.2
            rw [← HMM.out] at hlim
            have htime : timeB d = true := by unfold timeB; simp; omega
            have KC := Lib.hid (fun w => show Calls Try.prog 9 #[.agg #[.int .i64 kp, .int .i64 ti, .int .i64 lo, .int .i64 hi, .bool rv], .agg #[.bool true, .int .i64 M, .int .i64 0], .int .i64 s, .int .i64 s, .int .i64 d] w fun e w' => e = .returned (.tuple #[.agg #[.bool true, .int .i64 M, .int .i64 0], .int .i64 M, .int .i64 0]) ∧ Below w.heap.size w w' by
              have hpos : posB M 0 = true := by have := set_of HS.out; unfold posB fromB; simp; omega
              have h := control_yes kp ti lo hi rv true M 0 s s d w HS.out hpos htime HT.out
              rw [track_scan kp ti lo hi rv s M d hlim.1 hlim.2] at h
              exact h)
            have HMX := Lib.hid (show max lo (min hi o) = M by have := (set_of HS.out).2.2; rw [HMM.out]; unfold limI; omega)
            have tti : (ti == 0) = false := by rw [beq_eq_false_iff_ne]; exact HT.out
            have hti : ¬ ti = 0 := HT.out
            clear htime hlim
            have f_0 := HF1.out.c 0 _ rfl
            have f_1 := HF1.out.c 1 _ rfl
            have f_2 := HF1.out.c 2 _ rfl
            have f_3 := HF1.out.c 3 _ rfl
            have f_4 := HF1.out.c 4 _ rfl
            go_wp2_with fail
            clear f_0 f_1 f_2 f_3 f_4
            clear tti hti
            go_loopw [14] (fun i wr => ∃ k : Nat, i = .int .i64 k ∧ (k : Int) ≤ max n 0 ∧ Hid (RowAt wr f [.int .i64 kp, .int .i64 ti, .int .i64 lo, .int .i64 hi, .bool rv] ∧ RowAt wr g [.int .i64 kp, .int .i64 ti, .int .i64 lo, .int .i64 hi, .bool rv] ∧ RowAt wr x [.bool true, .int .i64 M, .int .i64 0] ∧ Below w.heap.size w wr)) (fun i _ => (n - intOf i).toNat)
            case atStart => exact ⟨0, rfl, by omega, Lib.hid ⟨HF1.out, HG1.out, HX1.out, HB1.out⟩⟩
            case round =>
              obtain ⟨k, rfl, hk, hH⟩ := hrel
              have HFr := Lib.hid hH.out.1
              have HGr := Lib.hid hH.out.2.1
              have HXr := Lib.hid hH.out.2.2.1
              have HBr := Lib.hid hH.out.2.2.2
              clear hH
              by_cases hlt : (k : Int) < n
              · have hmx := HMX.out
                have g_0 := HGr.out.c 0 _ rfl
                have g_1 := HGr.out.c 1 _ rfl
                have g_2 := HGr.out.c 2 _ rfl
                have g_3 := HGr.out.c 3 _ rfl
                have g_4 := HGr.out.c 4 _ rfl
                have x_0 := HXr.out.c 0 _ rfl
                have x_1 := HXr.out.c 1 _ rfl
                have x_2 := HXr.out.c 2 _ rfl
                go_wp2_with fail
                refine (KC.out _).mono ?_
                rintro e w3 ⟨rfl, hb⟩
                clear g_0 g_1 g_2 g_3 g_4
                clear x_0 x_1 x_2
                obtain ⟨V3, y, hV, hy, RY, BX, sx⟩ := box1 w3 #[.bool true, .int .i64 M, .int .i64 0] 28
                have hbb := hb.trans (BX.mono hb.size)
                have HF3 := Lib.hid (HFr.out.keep hbb)
                have HG3 := Lib.hid (HGr.out.keep hbb)
                have HX3 := Lib.hid (HXr.out.keep hbb)
                have HB3 := Lib.hid (HBr.out.trans (hbb.mono HBr.out.size))
                go_upto_region 9 with fail
                rw [← hV]
                try rw [← hy]
                clear hV hy BX sx hb hbb HFr HGr HXr HBr
                have f_0 := HF3.out.c 0 _ rfl
                have f_1 := HF3.out.c 1 _ rfl
                have f_2 := HF3.out.c 2 _ rfl
                have f_3 := HF3.out.c 3 _ rfl
                have f_4 := HF3.out.c 4 _ rfl
                have x_0 := HX3.out.c 0 _ rfl
                have x_1 := HX3.out.c 1 _ rfl
                have x_2 := HX3.out.c 2 _ rfl
                have x_z := HX3.out.fz
                have y_0 := RY.c 0 _ rfl
                have y_1 := RY.c 1 _ rfl
                have y_2 := RY.c 2 _ rfl
                go_wp2_with fail
                go_roundw
                case rel => exact ⟨k + 1, by go_num, by omega, Lib.hid ⟨HF3.out.other hfx [.bool true, .int .i64 M, .int .i64 0], HG3.out.other hgx [.bool true, .int .i64 M, .int .i64 0], HX3.out.setRow [.bool true, .int .i64 M, .int .i64 0] rfl, set_below HB3.out HXW.out [.bool true, .int .i64 M, .int .i64 0]⟩⟩
                case measure => (simp [intOf]) <;> omega
              · go_wp2_with fail
                refine (HAW.out _).mono ?_
                rintro e wz ⟨rfl, hb⟩
                go_wp2_with fail
                go_ret
                exact ⟨rfl, HBr.out.trans (hb.mono HBr.out.size)⟩
  · have g_0 := HG.out.c 0 _ rfl
    have g_1 := HG.out.c 1 _ rfl
    have g_2 := HG.out.c 2 _ rfl
    have g_3 := HG.out.c 3 _ rfl
    have g_4 := HG.out.c 4 _ rfl
    have hs2 : setB kp ti lo hi = false := by cases h : setB kp ti lo hi; rfl; exact absurd h hs
    have KT := Lib.hid (fun w => track_no kp ti lo hi rv s s o w hs2)
    clear hs hs2
    go_wp2_with fail
    refine (KT.out _).mono ?_
    rintro e w1 ⟨rfl, hb⟩
    have HB1 := Lib.hid (HB.out.trans (hb.mono HB.out.size))
    clear hb
    clear g_0 g_1 g_2 g_3 g_4
    have hk := (Below.refl w1.heap.size w1).alloc (Nat.le_refl _) (Obj.cells #[.bool false, .int .i64 0, .int .i64 0] 28)
    have HB2 := Lib.hid (HB1.out.trans (hk.mono HB1.out.size))
    clear hk
    go_wp2_with fail
    refine (HAW.out _).mono ?_
    rintro e wz ⟨rfl, hb⟩
    go_wp2_with fail
    go_ret
    exact ⟨rfl, HB2.out.trans (hb.mono HB2.out.size)⟩
end Go.Proofs.Ytepmeacdacnhmaa
