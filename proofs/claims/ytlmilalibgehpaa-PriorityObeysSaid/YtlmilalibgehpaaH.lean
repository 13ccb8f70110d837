/- The contract of under. -/
import Derived.Test.YtlmilalibgehpaaF
namespace Go.Proofs.Ytlmilalibgehpaa
open Go.RowKit

def undG (S : Nat → WrD) : Nat → Nat → Nat
  | 0, i => i
  | n + 1, i => if (S i).k ≠ 0 then i else undG S n (i + 1)
def undV (S : Nat → WrD) (lv : Nat) (c m : Int) : Value := if undG S (16 - lv) lv = 16 then .tuple #[.int .i64 17, .agg #[.int .i64 c, .int .i64 m]] else .tuple #[.int .i64 ((undG S (16 - lv) lv : Nat) + 1), .agg #[.int .i64 (S (undG S (16 - lv) lv)).k, .int .i64 (S (undG S (16 - lv) lv)).n]]
theorem undG_step {S : Nat → WrD} {j : Nat} (hj : j < 16) (h : (S j).k = 0) : undG S (16 - j) j = undG S (16 - (j + 1)) (j + 1) := by
  rw [show 16 - j = (16 - (j + 1)) + 1 by omega]
  show (if (S j).k ≠ 0 then j else undG S (16 - (j + 1)) (j + 1)) = _
  rw [if_neg (by simp [h])]
theorem undG_hit {S : Nat → WrD} {j : Nat} (hj : j < 16) (h : (S j).k ≠ 0) : undG S (16 - j) j = j := by
  rw [show 16 - j = (16 - (j + 1)) + 1 by omega]
  exact if_pos h

set_option maxHeartbeats 4000000 in
set_option maxRecDepth 100000 in
theorem under_any (S : Nat → WrD) (lv : Nat) (hlv : lv ≤ 16) (c m : Int) (w : World) : Calls Try.prog 37 #[.agg (slotC S).toArray, .int .i64 lv, .agg #[.int .i64 c, .int .i64 m]] w fun e w' => e = .returned (undV S lv c m) ∧ Below w.heap.size w w' := by
  obtain ⟨C, hC⟩ : ∃ C, C = (slotC S).toArray := ⟨_, rfl⟩
  obtain ⟨W, g, h, r, hW, hg, hh, hr, RR, RO, RS, B, sz⟩ := box3 w C 55 #[.int .i64 c, .int .i64 m] 23 #[.int .i64 0, .int .i64 0] 23
  have HR0 := Lib.hid (show RowAt W g (slotC S) by rw [hC] at RR; exact RR)
  have HO0 := Lib.hid RO
  have HS0 := Lib.hid RS
  have HB0 := Lib.hid B
  have HLV := Lib.hid hlv
  have HWR := Lib.hid (show w.heap.size ≤ r by omega)
  have hrg : r ≠ g := by omega
  have hrh : r ≠ h := by omega
  rw [← hC]
  clear hC RR RO RS B sz hlv
  go_enter Try.func37, Try.ntmps37
  go_wp2_with fail
  rw [← hW]
  try rw [← hr]
  try rw [← hh]
  try rw [← hg]
  clear hW hg hh hr
  go_loopw [8] (fun i wr => ∃ j : Nat, j ≤ 16 ∧ i = .int .i64 j ∧ Hid (undG S (16 - lv) lv = undG S (16 - j) j ∧ wr = W)) (fun i _ => 16 - (intOf i).toNat)
  case atStart => exact ⟨lv, HLV.out, rfl, Lib.hid ⟨rfl, rfl⟩⟩
  case round =>
    obtain ⟨j, hj, rfl, hH⟩ := hrel
    obtain rfl : wr = W := hH.out.2
    by_cases hlt : j < 16
    · obtain ⟨⟨xl, xq, xk, xn⟩, hx⟩ : ∃ x, S j = x := ⟨_, rfl⟩
      have hat := fun i v hv => HR0.out.c (j * 4 + i) v ((slotC_at S j i hlt (by
        have := (List.getElem?_eq_some_iff.1 hv).1; exact this)).trans hv)
      rw [hx] at hat
      have z2 := hat 2 _ rfl
      have z3 := hat 3 _ rfl
      have k1 : (0 : Int) ≤ (j : Int) := by omega
      have k2 : (j : Int) < 16 := by omega
      have HX := Lib.hid hx
      have HU := Lib.hid hH.out.1
      have HJ := Lib.hid hlt
      clear hat hx hH
      by_cases hq : xk = 0
      · subst hq
        have HN := Lib.hid (HU.out.trans (undG_step HJ.out (by rw [HX.out])))
        go_wp2_with fail
        go_roundw
        case rel => exact ⟨j + 1, by omega, by go_num, Lib.hid ⟨HN.out, by trivial⟩⟩
        case measure => simp [intOf]; omega
      · have HQ := Lib.hid hq
        have HN := Lib.hid (HU.out.trans (undG_hit HJ.out (by rw [HX.out]; exact HQ.out)))
        have t1 : (xk != 0) = true := by simpa using hq
        have s0 := HS0.out.c 0 _ rfl
        have s1 := HS0.out.c 1 _ rfl
        have sz := HS0.out.fz
        have HRES := Lib.hid (show undV S lv c m = .tuple #[.int .i64 ((j : Nat) + 1), .agg #[.int .i64 xk, .int .i64 xn]] by
          unfold undV
          rw [HN.out, if_neg (by have := HJ.out; omega), HX.out])
        have w1 : IntKind.i64.wrap ((j : Int) + 1) = (j : Int) + 1 := IntWalk.i64_in _ ⟨by omega, by omega⟩
        clear hq
        go_wp2_with fail
        go_region_held3 (fun w' => w'.cell? ⟨g, j * 4 + 2, none⟩ = some (.int .i64 xk) ∧ w'.cell? ⟨g, j * 4 + 3, none⟩ = some (.int .i64 xn)) (first | go_keep) ((fail))
        all_goals
          rename_i hHeld
          clear hHeld
          have hs := HS0.out.setRow [.int .i64 xk, .int .i64 xn] rfl
          have hB := (set_below HB0.out HWR.out [.int .i64 xk, .int .i64 xn]).drew
          have y0 : ((wr.setCell ⟨r, 0, none⟩ (.int .i64 xk)).setCell ⟨r, 1, none⟩ (.int .i64 xn)).cell? ⟨r, 0, none⟩ = some (.int .i64 xk) := hs.c 0 _ rfl
          have y1 : ((wr.setCell ⟨r, 0, none⟩ (.int .i64 xk)).setCell ⟨r, 1, none⟩ (.int .i64 xn)).cell? ⟨r, 1, none⟩ = some (.int .i64 xn) := hs.c 1 _ rfl
          go_wp2_with fail
          (try simp only [Exit.inBlock, Exit.then])
          refine bodyPost_ret (by simp [results, Try.results37, go_sem, y0, y1]; try rfl) rfl ?_
          exact ⟨congrArg Ending.returned HRES.out.symm, hB⟩
    · obtain rfl : j = 16 := by omega
      have HN := Lib.hid (hH.out.1.trans (show undG S (16 - 16) 16 = 16 from rfl))
      have HRES := Lib.hid (show undV S lv c m = .tuple #[.int .i64 17, .agg #[.int .i64 c, .int .i64 m]] from if_pos HN.out)
      have o0 := HO0.out.c 0 _ rfl
      have o1 := HO0.out.c 1 _ rfl
      have s0 := HS0.out.c 0 _ rfl
      have s1 := HS0.out.c 1 _ rfl
      have sz := HS0.out.fz
      go_wp2_with fail
      go_region_held3 (fun w' => w'.cell? ⟨h, 0, none⟩ = some (.int .i64 c) ∧ w'.cell? ⟨h, 1, none⟩ = some (.int .i64 m)) (first | go_keep) ((fail))
      all_goals
        rename_i hHeld
        clear hHeld
        have hs := HS0.out.setRow [.int .i64 c, .int .i64 m] rfl
        have hB := (set_below HB0.out HWR.out [.int .i64 c, .int .i64 m]).drew
        have y0 : ((wr.setCell ⟨r, 0, none⟩ (.int .i64 c)).setCell ⟨r, 1, none⟩ (.int .i64 m)).cell? ⟨r, 0, none⟩ = some (.int .i64 c) := hs.c 0 _ rfl
        have y1 : ((wr.setCell ⟨r, 0, none⟩ (.int .i64 c)).setCell ⟨r, 1, none⟩ (.int .i64 m)).cell? ⟨r, 1, none⟩ = some (.int .i64 m) := hs.c 1 _ rfl
        go_wp2_with fail
        (try simp only [Exit.inBlock, Exit.then])
        refine bodyPost_ret (by simp [results, Try.results37, go_sem, y0, y1]; try rfl) rfl ?_
        exact ⟨congrArg Ending.returned HRES.out.symm, hB⟩
end Go.Proofs.Ytlmilalibgehpaa
