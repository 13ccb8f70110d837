/- The contract of the specification's at. -/
import Derived.Test.YtlmilalibgehpaaI
namespace Go.Proofs.Ytlmilalibgehpaa
open Go.RowKit

def goodS (S : Nat → WrD) (p : Nat) : Prop := S p = zW ∨ checkW (S p) = 0
theorem good_seq {x : WrD} (h : checkW x = 0) : 1 ≤ x.q := by
  unfold checkW at h
  split at h
  · cases h
  · split at h
    · cases h
    · omega
theorem slots_good (xs : List WrD) (p : Nat) : ∀ S : Nat → WrD, goodS S p → goodS (slotsF S xs) p := by
  induction xs with
  | nil => intro S h; exact h
  | cons x r ih =>
    intro S h
    refine ih (addS S x) ?_
    unfold addS
    split
    · rename_i hc
      unfold goodS setS
      split
      · exact .inr hc.1
      · exact h
    · exact h
theorem best_good (xs : List WrD) (p : Nat) : goodS (bestS xs) p := slots_good xs p _ (.inl rfl)
theorem best_snoc (xs : List WrD) (j : Nat) (x : WrD) (h : xs[j]? = some x) : bestS (xs.take (j + 1)) = addS (bestS (xs.take j)) x := by
  unfold bestS slotsF
  rw [List.take_add_one, h, List.foldl_append]; rfl
theorem add_other {S : Nat → WrD} {x : WrD} {p : Nat} (h : x.l ≠ (p : Int) + 1) : addS S x p = S p := by
  unfold addS
  split
  · rename_i hc
    have := check_level hc.1
    unfold setS
    rw [if_neg (by omega)]
  · rfl
theorem add_same {S : Nat → WrD} {x : WrD} {p : Nat} (h : x.l = (p : Int) + 1) (h0 : checkW x = 0) : addS S x p = if lessB (S p) x = true then x else S p := by
  have hp : (x.l - 1).toNat = p := by omega
  unfold addS
  rw [hp]
  by_cases hl : lessB (S p) x = true
  · rw [if_pos ⟨h0, (cmp_less x (S p)).2 hl⟩, if_pos hl]; unfold setS; rw [if_pos rfl]
  · rw [if_neg (fun g => hl ((cmp_less x (S p)).1 g.2)), if_neg hl]
theorem less_zero {x : WrD} (h : checkW x = 0) : lessB zW x = true := by
  have h1 := good_seq h
  unfold lessB zW
  have : (0 : Int) ≠ x.q := by omega
  simp [this]; omega
def foundB (y : WrD) : Bool := decide (y.q ≠ 0)

set_option maxHeartbeats 8000000 in
set_option maxRecDepth 100000 in
theorem at_any (a : Option Addr) (cap : Nat) (xs : List WrD) (lev : Int) (p : Nat) (hlev : lev = (p : Int) + 1) (w : World) (hmax : xs.length ≤ 200) (hin : InS w a xs.length 4 (flat wrL xs)) : Calls Try.prog 35 #[.slice a xs.length cap, .int .i64 lev] w fun e w' => e = .returned (.tuple #[wrV (bestS xs p), .bool (foundB (bestS xs p))]) ∧ Below w.heap.size w w' := by
  obtain ⟨N, hN⟩ : ∃ N, N = xs.length := ⟨_, rfl⟩
  have HN := Lib.hid hN
  have HI := Lib.hid hin
  have HM := Lib.hid hmax
  rw [← hN]
  obtain ⟨W, r, m, hW, hr, hm, RR, RM, B, sz⟩ := box2 w #[.int .i64 0, .int .i64 0, .int .i64 0, .int .i64 0] 25 #[.int .i64 0, .int .i64 0, .int .i64 0, .int .i64 0] 25
  have HR0 := Lib.hid RR
  have HM0 := Lib.hid (show RowAt W m (wrL (bestS (xs.take 0) p)) from RM)
  have HB0 := Lib.hid B
  have HWR := Lib.hid (show w.heap.size ≤ r by omega)
  have HWM := Lib.hid (show w.heap.size ≤ m by omega)
  have hmr : m ≠ r := by omega
  have HLEV := Lib.hid hlev
  clear hN hin hmax RR RM B sz hlev
  go_enter Try.func35, Try.ntmps35
  go_wp2_with fail
  rw [← hW]
  try rw [← hm]
  try rw [← hr]
  clear hW hm hr
  go_loopw [7, 8] (fun f i wr => ∃ j : Nat, j ≤ N ∧ i = .int .i64 j ∧ Hid (f = .bool (foundB (bestS (xs.take j) p)) ∧ RowAt wr m (wrL (bestS (xs.take j) p)) ∧ RowAt wr r [.int .i64 0, .int .i64 0, .int .i64 0, .int .i64 0] ∧ Below w.heap.size w wr)) (fun _ i _ => N - (intOf i).toNat)
  case atStart => exact ⟨0, by omega, rfl, Lib.hid ⟨rfl, HM0.out, HR0.out, HB0.out⟩⟩
  case round =>
    obtain ⟨j, hj, rfl, hH⟩ := hrel
    by_cases hlt : j < N
    · have hjx : j < xs.length := by rw [← HN.out]; exact hlt
      obtain ⟨d, o, rfl, hbl, hcell⟩ := (HI.out.keep hH.out.2.2.2).at wrL_len (by omega)
      obtain ⟨x, hx⟩ : ∃ x, xs[j]? = some x := ⟨_, List.getElem?_eq_getElem hjx⟩
      have HSN := Lib.hid (best_snoc xs j x hx)
      have HGD := Lib.hid (best_good (xs.take j) p)
      obtain ⟨xl, xq, xk, xn⟩ := x
      have q0 := hcell j _ hx 0 _ rfl
      have q1 := hcell j _ hx 1 _ rfl
      have q2 := hcell j _ hx 2 _ rfl
      have q3 := hcell j _ hx 3 _ rfl
      rw [Nat.add_zero] at q0
      obtain ⟨⟨yl, yq, yk, yn⟩, hy⟩ : ∃ y, bestS (xs.take j) p = y := ⟨_, rfl⟩
      have HY := Lib.hid hy
      have HF := Lib.hid hH.out.1
      have HR := Lib.hid hH.out.2.2.1
      have HMr := Lib.hid hH.out.2.1
      rw [hy] at HMr HF
      have HB := Lib.hid hH.out.2.2.2
      have k1 : (0 : Int) ≤ (j : Int) := by omega
      have k2 : (j : Int) < (N : Int) := by omega
      have k3 : N ≤ 200 := by rw [HN.out]; exact HM.out
      have ha := (Below.refl wr.heap.size wr).alloc (Nat.le_refl _) (Obj.cells #[.int .i64 xl, .int .i64 xq, .int .i64 xk, .int .i64 xn] 25)
      have HX1 := Lib.hid (row_fresh wr #[.int .i64 xl, .int .i64 xq, .int .i64 xk, .int .i64 xn] 25)
      have HR1 := Lib.hid (HR.out.keep ha)
      have HM1 := Lib.hid (show RowAt _ m [.int .i64 yl, .int .i64 yq, .int .i64 yk, .int .i64 yn] from HMr.out.keep ha)
      have HB1 := Lib.hid (HB.out.trans (ha.mono HB.out.size))
      have HCK := Lib.hid (fun w => rcheck_any xl xq xk xn w)
      have HLS := Lib.hid (fun w => less_any yl yq yk yn xl xq xk xn w)
      clear hx hcell hjx hy hH hbl ha HR HMr HB
      have x0 := HX1.out.c 0 _ rfl
      have x1 := HX1.out.c 1 _ rfl
      have x2 := HX1.out.c 2 _ rfl
      have x3 := HX1.out.c 3 _ rfl
      have m0 := HM1.out.c 0 _ rfl
      have m1 := HM1.out.c 1 _ rfl
      have m2 := HM1.out.c 2 _ rfl
      have m3 := HM1.out.c 3 _ rfl
      obtain ⟨F, hF⟩ : ∃ F, F = foundB ⟨yl, yq, yk, yn⟩ := ⟨_, rfl⟩
      rw [← hF] at HF
      have HFF := Lib.hid hF
      obtain rfl := HF.out
      clear hF HF
      by_cases hl : xl = lev
      · subst hl
        obtain ⟨E, hE⟩ : ∃ E, E = checkW ⟨xl, xq, xk, xn⟩ := ⟨_, rfl⟩
        have hck := HCK.out
        rw [← hE] at hck
        have HCE := Lib.hid hck
        have HE := Lib.hid hE
        clear hck hE HCK
        go_wp2_with fail
        refine (HCE.out _).mono ?_
        rintro e w2 ⟨rfl, hb⟩
        clear x0 x1 x2 x3 m0 m1 m2 m3
        have HX2 := Lib.hid (HX1.out.keep hb)
        have HR2 := Lib.hid (HR1.out.keep hb)
        have HM2 := Lib.hid (HM1.out.keep hb)
        have HB2 := Lib.hid (HB1.out.trans (hb.mono HB1.out.size))
        clear hb HX1 HR1 HM1 HB1 HCE q0 q1 q2 q3
        have x0 := HX2.out.c 0 _ rfl
        have x1 := HX2.out.c 1 _ rfl
        have x2 := HX2.out.c 2 _ rfl
        have x3 := HX2.out.c 3 _ rfl
        have m0 := HM2.out.c 0 _ rfl
        have m1 := HM2.out.c 1 _ rfl
        have m2 := HM2.out.c 2 _ rfl
        have m3 := HM2.out.c 3 _ rfl
        have mz := HM2.out.fz
        by_cases h0 : E = 0
        · subst h0
          cases F
          · have HZ := Lib.hid (show ⟨yl, yq, yk, yn⟩ = zW from by
              have hg := HGD.out
              unfold goodS at hg
              rw [HY.out] at hg
              rcases hg with h | h
              · exact h
              · have h1 := good_seq h
                have h2 := HFF.out
                unfold foundB at h2
                have h2 := of_decide_eq_false h2.symm
                have h1 : 1 ≤ yq := h1
                have h2 : ¬ yq ≠ 0 := h2
                omega)
            have HNB := Lib.hid (show bestS (xs.take (j + 1)) p = ⟨xl, xq, xk, xn⟩ by
              rw [HSN.out, add_same HLEV.out HE.out.symm, HY.out, HZ.out, if_pos (less_zero HE.out.symm)])
            have HFN := Lib.hid (show foundB ⟨xl, xq, xk, xn⟩ = true from decide_eq_true (by have := good_seq (x := ⟨xl, xq, xk, xn⟩) HE.out.symm; have : 1 ≤ xq := this; show xq ≠ 0; omega))
            go_wp2_with fail
            go_roundw
            case rel => exact ⟨j + 1, by omega, by go_num, Lib.hid ⟨by rw [HNB.out, HFN.out], by rw [HNB.out]; exact HM2.out.setRow (wrL ⟨xl, xq, xk, xn⟩) rfl, HR2.out.other hmr (wrL ⟨xl, xq, xk, xn⟩), set_below HB2.out HWM.out (wrL ⟨xl, xq, xk, xn⟩)⟩⟩
            case measure => simp [intOf]; omega
          · clear HGD
            go_wp2_with fail
            refine (HLS.out _).mono ?_
            rintro e w3 ⟨rfl, hb⟩
            clear x0 x1 x2 x3 m0 m1 m2 m3 mz
            have HX3 := Lib.hid (HX2.out.keep hb)
            have HR3 := Lib.hid (HR2.out.keep hb)
            have HM3 := Lib.hid (HM2.out.keep hb)
            have HB3 := Lib.hid (HB2.out.trans (hb.mono HB2.out.size))
            clear hb HX2 HR2 HM2 HB2
            have x0 := HX3.out.c 0 _ rfl
            have x1 := HX3.out.c 1 _ rfl
            have x2 := HX3.out.c 2 _ rfl
            have x3 := HX3.out.c 3 _ rfl
            have m0 := HM3.out.c 0 _ rfl
            have m1 := HM3.out.c 1 _ rfl
            have m2 := HM3.out.c 2 _ rfl
            have m3 := HM3.out.c 3 _ rfl
            have mz := HM3.out.fz
            by_cases hls : lessB ⟨yl, yq, yk, yn⟩ ⟨xl, xq, xk, xn⟩ = true
            · rw [hls]
              have HNB := Lib.hid (show bestS (xs.take (j + 1)) p = ⟨xl, xq, xk, xn⟩ by
                rw [HSN.out, add_same HLEV.out HE.out.symm, HY.out, if_pos hls])
              have HFN := Lib.hid (show foundB ⟨xl, xq, xk, xn⟩ = true from decide_eq_true (by have := good_seq (x := ⟨xl, xq, xk, xn⟩) HE.out.symm; have : 1 ≤ xq := this; show xq ≠ 0; omega))
              clear hls
              go_wp2_with fail
              go_roundw
              case rel => exact ⟨j + 1, by omega, by go_num, Lib.hid ⟨by rw [HNB.out, HFN.out], by rw [HNB.out]; exact HM3.out.setRow (wrL ⟨xl, xq, xk, xn⟩) rfl, HR3.out.other hmr (wrL ⟨xl, xq, xk, xn⟩), set_below HB3.out HWM.out (wrL ⟨xl, xq, xk, xn⟩)⟩⟩
              case measure => simp [intOf]; omega
            · rw [show lessB ⟨yl, yq, yk, yn⟩ ⟨xl, xq, xk, xn⟩ = false by simpa using hls]
              have HNB := Lib.hid (show bestS (xs.take (j + 1)) p = ⟨yl, yq, yk, yn⟩ by
                rw [HSN.out, add_same HLEV.out HE.out.symm, HY.out, if_neg hls])
              clear hls
              go_wp2_with fail
              go_roundw
              case rel => exact ⟨j + 1, by omega, by go_num, Lib.hid ⟨by rw [HNB.out, HFF.out], by rw [HNB.out]; exact HM3.out, HR3.out, HB3.out⟩⟩
              case measure => simp [intOf]; omega
        · have HNB := Lib.hid (show bestS (xs.take (j + 1)) p = ⟨yl, yq, yk, yn⟩ by
            rw [HSN.out, addS_bad (by rw [← HE.out]; exact h0), HY.out])
          have t1 : (E == 0) = false := by rw [beq_eq_false_iff_ne]; exact h0
          clear h0
          go_wp2_with fail
          go_roundw
          case rel => exact ⟨j + 1, by omega, by go_num, Lib.hid ⟨by rw [HNB.out, HFF.out], by rw [HNB.out]; exact HM2.out, HR2.out, HB2.out⟩⟩
          case measure => simp [intOf]; omega
      · have HNB := Lib.hid (show bestS (xs.take (j + 1)) p = ⟨yl, yq, yk, yn⟩ by rw [HSN.out, add_other (by rw [← HLEV.out]; exact hl), HY.out])
        have t1 : (xl == lev) = false := by rw [beq_eq_false_iff_ne]; exact hl
        clear hl
        go_wp2_with fail
        go_roundw
        case rel => exact ⟨j + 1, by omega, by go_num, Lib.hid ⟨by rw [HNB.out, HFF.out], by rw [HNB.out]; exact HM1.out, HR1.out, HB1.out⟩⟩
        case measure => simp [intOf]; omega
    · obtain rfl : j = N := by omega
      obtain ⟨⟨yl, yq, yk, yn⟩, hy⟩ : ∃ y, bestS xs p = y := ⟨_, rfl⟩
      have htk : xs.take j = xs := by rw [HN.out, List.take_length]
      have HF := Lib.hid hH.out.1
      have HMr := Lib.hid hH.out.2.1
      have HR := Lib.hid hH.out.2.2.1
      have HB := Lib.hid hH.out.2.2.2
      rw [htk, hy] at HF HMr
      have HMM := Lib.hid (show RowAt wr m [.int .i64 yl, .int .i64 yq, .int .i64 yk, .int .i64 yn] from HMr.out)
      have HYY := Lib.hid hy
      obtain ⟨F, hF⟩ : ∃ F, F = foundB ⟨yl, yq, yk, yn⟩ := ⟨_, rfl⟩
      rw [← hF] at HF
      have HFF := Lib.hid hF
      obtain rfl := HF.out
      clear hF HF hy htk hH HMr
      have m0 := HMM.out.c 0 _ rfl
      have m1 := HMM.out.c 1 _ rfl
      have m2 := HMM.out.c 2 _ rfl
      have m3 := HMM.out.c 3 _ rfl
      have r0 := HR.out.c 0 _ rfl
      have r1 := HR.out.c 1 _ rfl
      have r2 := HR.out.c 2 _ rfl
      have r3 := HR.out.c 3 _ rfl
      have rz := HR.out.fz
      go_wp2_with fail
      have hs := (HR.out).setRow [.int .i64 yl, .int .i64 yq, .int .i64 yk, .int .i64 yn] rfl
      have y0 : ((((wr.setCell ⟨r, 0, none⟩ (.int .i64 yl)).setCell ⟨r, 1, none⟩ (.int .i64 yq)).setCell ⟨r, 2, none⟩ (.int .i64 yk)).setCell ⟨r, 3, none⟩ (.int .i64 yn)).cell? ⟨r, 0, none⟩ = some (.int .i64 yl) := hs.c 0 _ rfl
      have y1 : ((((wr.setCell ⟨r, 0, none⟩ (.int .i64 yl)).setCell ⟨r, 1, none⟩ (.int .i64 yq)).setCell ⟨r, 2, none⟩ (.int .i64 yk)).setCell ⟨r, 3, none⟩ (.int .i64 yn)).cell? ⟨r, 1, none⟩ = some (.int .i64 yq) := hs.c 1 _ rfl
      have y2 : ((((wr.setCell ⟨r, 0, none⟩ (.int .i64 yl)).setCell ⟨r, 1, none⟩ (.int .i64 yq)).setCell ⟨r, 2, none⟩ (.int .i64 yk)).setCell ⟨r, 3, none⟩ (.int .i64 yn)).cell? ⟨r, 2, none⟩ = some (.int .i64 yk) := hs.c 2 _ rfl
      have y3 : ((((wr.setCell ⟨r, 0, none⟩ (.int .i64 yl)).setCell ⟨r, 1, none⟩ (.int .i64 yq)).setCell ⟨r, 2, none⟩ (.int .i64 yk)).setCell ⟨r, 3, none⟩ (.int .i64 yn)).cell? ⟨r, 3, none⟩ = some (.int .i64 yn) := hs.c 3 _ rfl
      (try simp only [Exit.inBlock, Exit.then])
      refine bodyPost_ret (by simp [results, Try.results35, go_sem, y0, y1, y2, y3]; try rfl) rfl ?_
      exact ⟨by rw [HYY.out, ← HFF.out], set_below HB.out HWR.out [.int .i64 yl, .int .i64 yq, .int .i64 yk, .int .i64 yn]⟩
end Go.Proofs.Ytlmilalibgehpaa
