/- Contracts of the specification's Slot, Under and Active. -/
import Derived.Test.YtlmilalibgehpaaL
namespace Go.Proofs.Ytlmilalibgehpaa
open Go.RowKit

set_option maxHeartbeats 4000000 in
set_option maxRecDepth 100000 in
theorem rslot_any (a : Option Addr) (cap : Nat) (xs : List WrD) (lev : Int) (p : Nat) (hlev : lev = (p : Int) + 1) (w : World) (hmax : xs.length ≤ 200) (hin : InS w a xs.length 4 (flat wrL xs)) : Calls Try.prog 24 #[.slice a xs.length cap, .int .i64 lev] w fun e w' => e = .returned (.agg #[.int .i64 (bestS xs p).k, .int .i64 (bestS xs p).n]) ∧ Below w.heap.size w w' := by
  have HAT := Lib.hid (fun w1 hb => at_any a cap xs lev p hlev w1 hmax (hin.keep (w' := w1) hb))
  obtain ⟨N, hN⟩ : ∃ N, N = xs.length := ⟨_, rfl⟩
  rw [← hN] at HAT ⊢
  obtain ⟨⟨yl, yq, yk, yn⟩, hy⟩ : ∃ y, bestS xs p = y := ⟨_, rfl⟩
  obtain ⟨F, hF⟩ : ∃ F, F = foundB ⟨yl, yq, yk, yn⟩ := ⟨_, rfl⟩
  rw [hy, ← hF] at HAT
  rw [hy]
  obtain ⟨W, r, hW, hr, RR, B, sz⟩ := box1 w #[.int .i64 0, .int .i64 0] 23
  have HR0 := Lib.hid RR
  have HB0 := Lib.hid B
  have HWR := Lib.hid (show w.heap.size ≤ r by omega)
  clear hmax hin hN hlev hy hF RR B sz
  go_enter Try.func24, Try.ntmps24
  go_wp2_with fail
  rw [← hW]
  try rw [← hr]
  clear hW hr
  refine (HAT.out _ HB0.out).mono ?_
  rintro e w1 ⟨rfl, hb⟩
  have hk := hb.alloc hb.size (Obj.cells #[.int .i64 yl, .int .i64 yq, .int .i64 yk, .int .i64 yn] 25)
  have HR1 := Lib.hid (HR0.out.keep hk)
  have HY1 := Lib.hid (row_fresh w1 #[.int .i64 yl, .int .i64 yq, .int .i64 yk, .int .i64 yn] 25)
  have HB1 := Lib.hid (HB0.out.trans (hk.mono HB0.out.size))
  clear hb hk HR0 HB0 HAT
  have y_0 := HY1.out.c 0 _ rfl
  have y_1 := HY1.out.c 1 _ rfl
  have y_2 := HY1.out.c 2 _ rfl
  have y_3 := HY1.out.c 3 _ rfl
  have r_0 := HR1.out.c 0 _ rfl
  have r_1 := HR1.out.c 1 _ rfl
  have r_z := HR1.out.fz
  go_wp2_with fail
  have hs := (HR1.out).setRow [.int .i64 yk, .int .i64 yn] rfl
  have y0 : (((w1.alloc (Obj.cells #[.int .i64 yl, .int .i64 yq, .int .i64 yk, .int .i64 yn] 25)).setCell ⟨r, 0, none⟩ (.int .i64 yk)).setCell ⟨r, 1, none⟩ (.int .i64 yn)).cell? ⟨r, 0, none⟩ = some (.int .i64 yk) := hs.c 0 _ rfl
  have y1 : (((w1.alloc (Obj.cells #[.int .i64 yl, .int .i64 yq, .int .i64 yk, .int .i64 yn] 25)).setCell ⟨r, 0, none⟩ (.int .i64 yk)).setCell ⟨r, 1, none⟩ (.int .i64 yn)).cell? ⟨r, 1, none⟩ = some (.int .i64 yn) := hs.c 1 _ rfl
  (try simp only [Exit.inBlock, Exit.then])
  refine bodyPost_ret (by simp [results, Try.results24, go_sem, y0, y1]; try rfl) rfl ?_
  exact ⟨rfl, set_below HB1.out HWR.out [.int .i64 yk, .int .i64 yn]⟩

set_option maxHeartbeats 4000000 in
set_option maxRecDepth 100000 in
theorem runder_any (a : Option Addr) (cap : Nat) (xs : List WrD) (lv : Nat) (hlv : lv ≤ 16) (c m : Int) (w : World) (hmax : xs.length ≤ 200) (hin : InS w a xs.length 4 (flat wrL xs)) : Calls Try.prog 26 #[.slice a xs.length cap, .int .i64 lv, .agg #[.int .i64 c, .int .i64 m]] w fun e w' => e = .returned (undV (bestS xs) lv c m) ∧ Below w.heap.size w w' := by
  have HSL := Lib.hid (fun lev p hl w1 hb => rslot_any a cap xs lev p hl w1 hmax (hin.keep (w' := w1) hb))
  obtain ⟨N, hN⟩ : ∃ N, N = xs.length := ⟨_, rfl⟩
  rw [← hN] at HSL ⊢
  obtain ⟨W, h, r, hW, hh, hr, RO, RR, B, sz⟩ := box2 w #[.int .i64 c, .int .i64 m] 23 #[.int .i64 0, .int .i64 0] 23
  have HR0 := Lib.hid RR
  have HO0 := Lib.hid RO
  have HB0 := Lib.hid B
  have HWR := Lib.hid (show w.heap.size ≤ r by omega)
  have hrh : r ≠ h := by omega
  have HLV := Lib.hid hlv
  have w0 : IntKind.i64.wrap ((lv : Int) + 1) = (lv : Int) + 1 := IntWalk.i64_in _ ⟨by omega, by omega⟩
  obtain ⟨S, hS⟩ : ∃ S, S = bestS xs := ⟨_, rfl⟩
  rw [← hS] at HSL ⊢
  clear hmax hin hN hS RO RR B sz
  go_enter Try.func26, Try.ntmps26
  go_wp2_with fail
  rw [← hW]
  try rw [← hr]
  try rw [← hh]
  clear hW hr hh
  go_loopw [8] (fun i wr => ∃ j : Nat, j ≤ 16 ∧ i = .int .i64 ((j : Int) + 1) ∧ Hid (undG S (16 - lv) lv = undG S (16 - j) j ∧ RowAt wr h [.int .i64 c, .int .i64 m] ∧ RowAt wr r [.int .i64 0, .int .i64 0] ∧ Below w.heap.size w wr)) (fun i _ => 17 - (intOf i).toNat)
  case atStart => exact ⟨lv, HLV.out, rfl, Lib.hid ⟨rfl, HO0.out, HR0.out, HB0.out⟩⟩
  case round =>
    obtain ⟨j, hj, rfl, hH⟩ := hrel
    by_cases hlt : j < 16
    · obtain ⟨J, hJ⟩ : ∃ J, J = (j : Int) + 1 := ⟨_, rfl⟩
      obtain ⟨⟨yl, yq, yk, yn⟩, hy⟩ : ∃ y, S j = y := ⟨_, rfl⟩
      have hsl := fun w1 hb => HSL.out J j hJ w1 hb
      rw [hy] at hsl
      have HS1 := Lib.hid hsl
      have HY := Lib.hid hy
      have HU := Lib.hid hH.out.1
      have HO := Lib.hid hH.out.2.1
      have HR := Lib.hid hH.out.2.2.1
      have HB := Lib.hid hH.out.2.2.2
      have HJ := Lib.hid hlt
      have HJJ := Lib.hid hJ
      have k1 : J ≤ 16 := by omega
      have w1 : IntKind.i64.wrap (J + 1) = J + 1 := IntWalk.i64_in _ ⟨by omega, by omega⟩
      rw [← hJ]
      clear hsl hy hH hJ
      go_wp2_with fail
      refine (HS1.out _ HB.out).mono ?_
      rintro e w2 ⟨rfl, hb⟩
      have hk := hb.alloc hb.size (Obj.cells #[.int .i64 yk, .int .i64 yn] 23)
      have HO2 := Lib.hid (HO.out.keep hk)
      have HR2 := Lib.hid (HR.out.keep hk)
      have HB2 := Lib.hid (HB.out.trans (hk.mono HB.out.size))
      have HV2 := Lib.hid (row_fresh w2 #[.int .i64 yk, .int .i64 yn] 23)
      have hrv : r ≠ w2.heap.size := by have := HR.out.lt; have := hb.size; omega
      clear hb hk HS1 HO HR HB
      by_cases hq : yk = 0
      · subst hq
        have HN := Lib.hid (HU.out.trans (undG_step HJ.out (by rw [HY.out])))
        have v_0 := HV2.out.c 0 _ rfl
        have v_1 := HV2.out.c 1 _ rfl
        go_wp2_with fail
        have hjj := HJJ.out
        go_roundw
        case rel => exact ⟨j + 1, by omega, by subst hjj; go_num, Lib.hid ⟨HN.out, HO2.out, HR2.out, HB2.out⟩⟩
        case measure => simp [intOf]; omega
      · have HQ := Lib.hid hq
        have HN := Lib.hid (HU.out.trans (undG_hit HJ.out (by rw [HY.out]; exact HQ.out)))
        have HRES := Lib.hid (show undV S lv c m = .tuple #[.int .i64 J, .agg #[.int .i64 yk, .int .i64 yn]] by
          unfold undV
          rw [HN.out, if_neg (by have := HJ.out; omega), HY.out, HJJ.out])
        have t1 : (yk != 0) = true := by simpa using hq
        have v_0 := HV2.out.c 0 _ rfl
        have v_1 := HV2.out.c 1 _ rfl
        have r_0 := HR2.out.c 0 _ rfl
        have r_1 := HR2.out.c 1 _ rfl
        have r_z := HR2.out.fz
        clear hq
        go_wp2_with fail
        obtain ⟨wb, hwb⟩ : ∃ x, x = w2.alloc (Obj.cells #[.int .i64 yk, .int .i64 yn] 23) := ⟨_, rfl⟩
        obtain ⟨g, hg⟩ : ∃ x, x = w2.heap.size := ⟨_, rfl⟩
        rw [← hwb] at HR2 HB2 HV2 v_0 v_1 r_0 r_1 r_z ⊢
        rw [← hg] at HV2 hrv v_0 v_1 ⊢
        clear hwb hg
        go_region_held3 (fun w' => w'.cell? ⟨g, 0, none⟩ = some (.int .i64 yk) ∧ w'.cell? ⟨g, 1, none⟩ = some (.int .i64 yn)) (first | go_keep) ((fail))
        all_goals
          rename_i hHeld
          clear hHeld
          have hs := HR2.out.setRow [.int .i64 yk, .int .i64 yn] rfl
          have hB := (set_below HB2.out HWR.out [.int .i64 yk, .int .i64 yn]).drew
          have y0 : ((wb.setCell ⟨r, 0, none⟩ (.int .i64 yk)).setCell ⟨r, 1, none⟩ (.int .i64 yn)).cell? ⟨r, 0, none⟩ = some (.int .i64 yk) := hs.c 0 _ rfl
          have y1 : ((wb.setCell ⟨r, 0, none⟩ (.int .i64 yk)).setCell ⟨r, 1, none⟩ (.int .i64 yn)).cell? ⟨r, 1, none⟩ = some (.int .i64 yn) := hs.c 1 _ rfl
          go_wp2_with fail
          (try simp only [Exit.inBlock, Exit.then])
          refine bodyPost_ret (by simp [results, Try.results26, go_sem, y0, y1]; try rfl) rfl ?_
          exact ⟨congrArg Ending.returned HRES.out.symm, hB⟩
    · obtain rfl : j = 16 := by omega
      have HN := Lib.hid (hH.out.1.trans (show undG S (16 - 16) 16 = 16 from rfl))
      have HRES := Lib.hid (show undV S lv c m = .tuple #[.int .i64 17, .agg #[.int .i64 c, .int .i64 m]] from if_pos HN.out)
      have HO2 := Lib.hid hH.out.2.1
      have HR2 := Lib.hid hH.out.2.2.1
      have HB2 := Lib.hid hH.out.2.2.2
      have o_0 := HO2.out.c 0 _ rfl
      have o_1 := HO2.out.c 1 _ rfl
      have r_0 := HR2.out.c 0 _ rfl
      have r_1 := HR2.out.c 1 _ rfl
      have r_z := HR2.out.fz
      go_wp2_with fail
      go_region_held3 (fun w' => w'.cell? ⟨h, 0, none⟩ = some (.int .i64 c) ∧ w'.cell? ⟨h, 1, none⟩ = some (.int .i64 m)) (first | go_keep) ((fail))
      all_goals
        rename_i hHeld
        clear hHeld
        have hs := HR2.out.setRow [.int .i64 c, .int .i64 m] rfl
        have hB := (set_below HB2.out HWR.out [.int .i64 c, .int .i64 m]).drew
        have y0 : ((wr.setCell ⟨r, 0, none⟩ (.int .i64 c)).setCell ⟨r, 1, none⟩ (.int .i64 m)).cell? ⟨r, 0, none⟩ = some (.int .i64 c) := hs.c 0 _ rfl
        have y1 : ((wr.setCell ⟨r, 0, none⟩ (.int .i64 c)).setCell ⟨r, 1, none⟩ (.int .i64 m)).cell? ⟨r, 1, none⟩ = some (.int .i64 m) := hs.c 1 _ rfl
        go_wp2_with fail
        (try simp only [Exit.inBlock, Exit.then])
        refine bodyPost_ret (by simp [results, Try.results26, go_sem, y0, y1]; try rfl) rfl ?_
        exact ⟨congrArg Ending.returned HRES.out.symm, hB⟩
end Go.Proofs.Ytlmilalibgehpaa
