/- Plain facts: a curve upside down; one that never rises falls. The law CurveMonotone. -/
import Derived.Test.YthghcppdfeeloaaCe
import Derived.Test.YthghcppdfeeloaaMo
namespace Go.Proofs.Ythghcppdfeeloaa
open Go.RowKit

def negK (ks : List (Int × Int)) : List (Int × Int) := ks.map fun k => (k.1, -k.2)
theorem negK_len (ks : List (Int × Int)) : (negK ks).length = ks.length := List.length_map _
theorem kx_negK (ks : List (Int × Int)) (i : Nat) : kx (negK ks) i = kx ks i := by
  unfold kx negK; simp only [List.getD, List.getElem?_map]; cases ks[i]? <;> rfl
theorem ky_negK (ks : List (Int × Int)) (i : Nat) : ky (negK ks) i = -ky ks i := by
  unfold ky negK; simp only [List.getD, List.getElem?_map]; cases ks[i]? <;> rfl
theorem inR_neg (n : Int) : inR (-n) = inR n := by
  unfold inR
  rw [Bool.and_comm]
  congr 1 <;> (rw [decide_eq_decide]; omega)
theorem fitL_negK (ks : List (Int × Int)) (k : Nat) : fitL (negK ks) k = fitL ks k := by
  unfold fitL; simp only [kx_negK, ky_negK, inR_neg]
theorem riseL_negK (ks : List (Int × Int)) (k : Nat) : riseL (negK ks) k = riseL ks k := by
  unfold riseL; simp only [kx_negK]
theorem checkL_negK (ks : List (Int × Int)) : checkL (negK ks) = checkL ks := by
  unfold checkL; rw [negK_len, fitL_negK, riseL_negK]
theorem dnL_negK (ks : List (Int × Int)) (k : Nat) : dnL (negK ks) k = upL ks k := by
  unfold dnL upL
  simp only [ky_negK]
  congr 1
  funext i
  rw [decide_eq_decide]; omega
theorem behind_negK (ks : List (Int × Int)) (x : Int) : behind (negK ks) x = behind ks x := by
  unfold behind; simp only [negK_len, kx_negK]
theorem lineI_negK (x x1 y1 x2 y2 : Int) : lineI x x1 (-y1) x2 (-y2) = -lineI x x1 y1 x2 y2 := by
  unfold lineI
  rw [clampI_neg, clampI_neg]
  split
  · split <;> rfl
  · rw [← quoI_neg]; congr 1
    rw [Int.neg_mul, Int.neg_mul]; omega
theorem val_negK (ks : List (Int × Int)) (x : Int) : valI (negK ks) x = -valI ks x := by
  unfold valI
  simp only [behind_negK, negK_len, kx_negK, ky_negK, lineI_negK]
theorem val_anti (ks : List (Int × Int)) (x x' : Int) (he : checkL ks = 0) (hu : upL ks (ks.length - 1) = false) (h : x ≤ x') : valI ks x' ≤ valI ks x := by
  have := val_mono (negK ks) x x' ((checkL_negK ks).trans he) (by rw [negK_len, dnL_negK]; exact hu) h
  rw [val_negK, val_negK] at this
  omega
theorem dir_dn (ks : List (Int × Int)) (h : dirI ks = 0 ∨ dirI ks = -1) : upL ks (ks.length - 1) = false := by
  unfold dirI at h
  cases hd : upL ks (ks.length - 1)
  · rfl
  · rw [hd] at h
    simp only [if_true] at h
    split at h <;> omega
theorem dir_four (ks : List (Int × Int)) : dirI ks = 0 ∨ dirI ks = 1 ∨ dirI ks = -1 ∨ dirI ks = 2 := by
  unfold dirI; split <;> split <;> omega

set_option maxHeartbeats 2000000 in
set_option maxRecDepth 100000 in
theorem monotone_law (a : Option Addr) (n cap : Nat) (x y : Int) (ks : List (Int × Int)) (w : World) (h : IsKnots w a n ks) (_ : -9223372036854775808 ≤ x ∧ x ≤ 9223372036854775807) (_ : -9223372036854775808 ≤ y ∧ y ≤ 9223372036854775807) :
    Calls Try.prog 7 #[.slice a n cap, .int .i64 x, .int .i64 y] w fun e w' => e = .returned (.bool true) ∧ Below w.heap.size w w' := by
  have HAw := Lib.hid (awake_yes w)
  have H1 := Lib.hid fun w' (hb : Below w.heap.size w w') => direction_any a n cap ks w' (h.at hb)
  have H2 := Lib.hid fun w' (hb : Below w.heap.size w w') => eval_any a n cap ks x w' (h.at hb)
  have H3 := Lib.hid fun w' (hb : Below w.heap.size w w') => eval_any a n cap ks y w' (h.at hb)
  by_cases hc : checkL ks = 0
  · rw [if_pos hc, hc] at H1 H2 H3
    by_cases hxy : y < x
    · have t0 : decide (y < x) = true := decide_eq_true hxy
      clear H2 H3 h hc hxy
      go_enter Try.func7, Try.ntmps7
      go_wp2_with fail
      refine HAw.out.mono ?_
      rintro e w1 ⟨rfl, hb1⟩
      have B1 := Lib.hid hb1
      clear hb1
      go_wp2_with fail
      refine (H1.out _ B1.out).mono ?_
      rintro e w2 ⟨rfl, hb2⟩
      have B2 := Lib.hid (B1.out.trans (hb2.mono B1.out.size))
      clear hb2
      go_wp2_with fail
      go_ret
      exact ⟨rfl, B2.out⟩
    · have t0 : decide (y < x) = false := decide_eq_false hxy
      have hd4 := dir_four ks
      have hup : dirI ks = 0 ∨ dirI ks = 1 → decide (valI ks x ≤ valI ks y) = true := fun hd => decide_eq_true (val_mono ks x y hc (dir_up ks hd) (by omega))
      have hdn : dirI ks = 0 ∨ dirI ks = -1 → decide (valI ks y ≤ valI ks x) = true := fun hd => decide_eq_true (val_anti ks x y hc (dir_dn ks hd) (by omega))
      obtain ⟨V, hV⟩ : ∃ V, V = valI ks x := ⟨_, rfl⟩
      obtain ⟨U, hU⟩ : ∃ U, U = valI ks y := ⟨_, rfl⟩
      rw [← hV] at H2 hup hdn
      rw [← hU] at H3 hup hdn
      have HUp := Lib.hid hup
      have HDn := Lib.hid hdn
      clear hup hdn hV hU h hxy hc
      go_enter Try.func7, Try.ntmps7
      go_wp2_with fail
      refine HAw.out.mono ?_
      rintro e w1 ⟨rfl, hb1⟩
      have B1 := Lib.hid hb1
      clear hb1
      go_wp2_with fail
      refine (H1.out _ B1.out).mono ?_
      rintro e w2 ⟨rfl, hb2⟩
      have B2 := Lib.hid (B1.out.trans (hb2.mono B1.out.size))
      clear hb2
      rcases hd4 with hd | hd | hd | hd
      · rw [hd]
        have t1 := HUp.out (.inl hd)
        have t2 := HDn.out (.inl hd)
        clear hd
        go_wp2_with fail
        refine (H2.out _ B2.out).mono ?_
        rintro e w3 ⟨rfl, hb3⟩
        have B3 := Lib.hid (B2.out.trans (hb3.mono B2.out.size))
        clear hb3
        go_wp2_with fail
        refine (H3.out _ B3.out).mono ?_
        rintro e w4 ⟨rfl, hb4⟩
        have B4 := Lib.hid (B3.out.trans (hb4.mono B3.out.size))
        clear hb4
        go_wp2_with fail
        go_ret
        exact ⟨rfl, B4.out⟩
      · rw [hd]
        have t1 := HUp.out (.inr hd)
        clear hd
        go_wp2_with fail
        refine (H2.out _ B2.out).mono ?_
        rintro e w3 ⟨rfl, hb3⟩
        have B3 := Lib.hid (B2.out.trans (hb3.mono B2.out.size))
        clear hb3
        go_wp2_with fail
        refine (H3.out _ B3.out).mono ?_
        rintro e w4 ⟨rfl, hb4⟩
        have B4 := Lib.hid (B3.out.trans (hb4.mono B3.out.size))
        clear hb4
        go_wp2_with fail
        go_ret
        exact ⟨rfl, B4.out⟩
      · rw [hd]
        have t2 := HDn.out (.inr hd)
        clear hd
        go_wp2_with fail
        refine (H2.out _ B2.out).mono ?_
        rintro e w3 ⟨rfl, hb3⟩
        have B3 := Lib.hid (B2.out.trans (hb3.mono B2.out.size))
        clear hb3
        go_wp2_with fail
        refine (H3.out _ B3.out).mono ?_
        rintro e w4 ⟨rfl, hb4⟩
        have B4 := Lib.hid (B3.out.trans (hb4.mono B3.out.size))
        clear hb4
        go_wp2_with fail
        go_ret
        exact ⟨rfl, B4.out⟩
      · rw [hd]
        clear hd
        go_wp2_with fail
        refine (H2.out _ B2.out).mono ?_
        rintro e w3 ⟨rfl, hb3⟩
        have B3 := Lib.hid (B2.out.trans (hb3.mono B2.out.size))
        clear hb3
        go_wp2_with fail
        refine (H3.out _ B3.out).mono ?_
        rintro e w4 ⟨rfl, hb4⟩
        have B4 := Lib.hid (B3.out.trans (hb4.mono B3.out.size))
        clear hb4
        go_wp2_with fail
        go_ret
        exact ⟨rfl, B4.out⟩
  · rw [if_neg hc] at H1
    have t2 : (checkL ks != 0) = true := by rw [bne_iff_ne]; exact hc
    obtain ⟨E, hE⟩ : ∃ E, E = checkL ks := ⟨_, rfl⟩
    rw [← hE] at H1 t2
    clear H2 H3 h hc hE
    go_enter Try.func7, Try.ntmps7
    go_wp2_with fail
    refine HAw.out.mono ?_
    rintro e w1 ⟨rfl, hb1⟩
    have B1 := Lib.hid hb1
    clear hb1
    go_wp2_with fail
    refine (H1.out _ B1.out).mono ?_
    rintro e w2 ⟨rfl, hb2⟩
    have B2 := Lib.hid (B1.out.trans (hb2.mono B1.out.size))
    clear hb2
    go_wp2_with fail
    go_ret
    exact ⟨rfl, B2.out⟩
end Go.Proofs.Ythghcppdfeeloaa
