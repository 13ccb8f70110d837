/- ondelay and offdelay of a relay. -/
import Derived.Test.YtmhfkdnblemfdaaDoorBo
namespace Go.Proofs.YtmhfkdnblemfdaaDoor
open Go.RowKit Go.Shelf

def onS (a x t dt : Int) : Int := if a = 1 then (if x = 0 then 0 else min (x - 1 + dt) t) + 1 else 0
def onV (a x t dt : Int) : Int := if a = 1 ∧ (if x = 0 then 0 else min (x - 1 + dt) t) = t then 1 else 0
set_option maxHeartbeats 4000000 in
theorem ondelay_any (rb sb n pb po pc : Nat) (v0 v1 v2 v3 v4 v5 : Value) (a x t dt : Int) (r : List Value) (hn : 0 < n) (ht : 0 ≤ t ∧ t ≤ 100000) (hx : -1 ≤ x ∧ x ≤ 200000) (hd : 0 ≤ dt ∧ dt ≤ 100000) (w : World) (hr : RelAt w rb sb n v0 v1 v2 v3 v4 v5 (.slice (some ⟨pb, po, none⟩) 1 pc)) (p0 : w.cell? ⟨pb, po, none⟩ = some (.int .i64 t)) (hs : RowAt w sb (.int .i64 x :: r)) :
    Calls Tryd.prog 50 #[.pointer (some ⟨rb, 0, none⟩), .int .i64 a, .int .i64 dt] w fun e w' => e = .returned (.int .i64 (onV a x t dt)) ∧ RowAt w' sb (.int .i64 (onS a x t dt) :: r) ∧ w.grownBy w' (some sb) := by
  have r6 := hr.c 6 _ rfl
  have r7 := hr.c 7 _ rfl
  have s0 := hs.c 0 _ rfl
  have sz := hs.fz
  have h0 : (0 : Int) < (n : Int) := by omega
  have HR := Lib.hid hr
  have HX := Lib.hid hs
  by_cases ha : a = 1
  · subst ha
    by_cases hx0 : x = 0
    · subst hx0
      have HE := Lib.hid (show onS 1 0 t dt = 1 by simp [onS])
      have HS := Lib.hid (row_set HX.out 0 (by simp) (.int .i64 1))
      have HG := Lib.hid (grown_cell w sb 0 (.int .i64 1))
      by_cases ht0 : t = 0
      · have HV := Lib.hid (show onV 1 0 t dt = 1 by simp [onV, ht0])
        subst ht0
        clear hr hs hx hd ht
        go_enter Tryd.func50, Tryd.ntmps50
        go_wp2_with fail
        refine (bit_any _ _).mono ?_
        rintro e w1 ⟨rfl, rfl⟩
        go_wp2_with fail
        go_ret
        exact ⟨by rw [HV.out]; rfl, by rw [HE.out]; exact HS.out, HG.out⟩
      · have HV := Lib.hid (show onV 1 0 t dt = 0 by simp [onV]; omega)
        have hb2 : ((0 : Int) == t) = false := beq_eq_false_iff_ne.2 (fun e => ht0 e.symm)
        clear hr hs hx hd ht ht0
        go_enter Tryd.func50, Tryd.ntmps50
        go_wp2_with fail
        refine (bit_any _ _).mono ?_
        rintro e w1 ⟨rfl, rfl⟩
        go_wp2_with fail
        go_ret
        exact ⟨by rw [HV.out]; rfl, by rw [HE.out]; exact HS.out, HG.out⟩
    · have hb0 : (x == 0) = false := beq_eq_false_iff_ne.2 hx0
      obtain ⟨s, hsx⟩ : ∃ s, min (x - 1 + dt) t = s := ⟨_, rfl⟩
      have hsb : -2 ≤ s ∧ s ≤ 100000 := by omega
      have w1 : IntKind.i64.wrap (s + 1) = s + 1 := IntWalk.i64_in _ (by omega)
      have HE := Lib.hid (show onS 1 x t dt = s + 1 by simp [onS, hx0, hsx])
      have HS := Lib.hid (row_set HX.out 0 (by simp) (.int .i64 (s + 1)))
      have HG := Lib.hid (grown_cell w sb 0 (.int .i64 (s + 1)))
      have KE := Lib.hid (elapsed_any rb sb n 0 v0 v1 v2 v3 v4 v5 _ x dt _ hn (by omega) (by omega) w hr hs rfl)
      by_cases hst : s = t
      · have HV := Lib.hid (show onV 1 x t dt = 1 by simp [onV, hx0, hsx, hst])
        have hq : (s == t) = true := by rw [beq_iff_eq]; exact hst
        clear hr hs hx0 hx hd ht hst
        go_enter Tryd.func50, Tryd.ntmps50
        go_wp2_with fail
        refine KE.out.mono ?_
        rintro e wz ⟨rfl, rfl⟩
        go_wp2_with fail
        refine (bit_any _ _).mono ?_
        rintro e wz ⟨rfl, rfl⟩
        go_wp2_with fail
        go_ret
        exact ⟨by rw [HV.out]; rfl, by rw [HE.out]; exact HS.out, HG.out⟩
      · have HV := Lib.hid (show onV 1 x t dt = 0 by simp [onV, hx0, hsx, hst])
        have hq : (s == t) = false := beq_eq_false_iff_ne.2 hst
        clear hr hs hx0 hx hd ht hst
        go_enter Tryd.func50, Tryd.ntmps50
        go_wp2_with fail
        refine KE.out.mono ?_
        rintro e wz ⟨rfl, rfl⟩
        go_wp2_with fail
        refine (bit_any _ _).mono ?_
        rintro e wz ⟨rfl, rfl⟩
        go_wp2_with fail
        go_ret
        exact ⟨by rw [HV.out]; rfl, by rw [HE.out]; exact HS.out, HG.out⟩
  · have hb : (a == 1) = false := beq_eq_false_iff_ne.2 ha
    have HE := Lib.hid (show onS a x t dt = 0 by simp [onS, ha])
    have HV := Lib.hid (show onV a x t dt = 0 by simp [onV, ha])
    have HS := Lib.hid (row_set HX.out 0 (by simp) (.int .i64 0))
    have HG := Lib.hid (grown_cell w sb 0 (.int .i64 0))
    clear hr hs ha hx hd ht
    go_enter Tryd.func50, Tryd.ntmps50
    go_wp2_with fail
    go_ret
    exact ⟨by rw [HV.out]; rfl, by rw [HE.out]; exact HS.out, HG.out⟩
def offS (a x t dt : Int) : Int := if a = 1 then -1 else if x = -1 then lastsN 0 t else if x = 0 then 0 else lastsN (x - 1 + dt) t
def offV (a x t dt : Int) : Int := if a = 1 then 1 else if x = -1 then (if 0 < t then 1 else 0) else if x = 0 then 0 else if x - 1 + dt < t then 1 else 0
set_option maxHeartbeats 4000000 in
theorem offdelay_any (rb sb n pb po pc : Nat) (v0 v1 v2 v3 v4 v5 : Value) (a x t dt : Int) (r : List Value) (hn : 0 < n) (hx : -1 ≤ x ∧ x ≤ 200000) (hd : 0 ≤ dt ∧ dt ≤ 100000) (w : World) (hr : RelAt w rb sb n v0 v1 v2 v3 v4 v5 (.slice (some ⟨pb, po, none⟩) 1 pc)) (p0 : w.cell? ⟨pb, po, none⟩ = some (.int .i64 t)) (hs : RowAt w sb (.int .i64 x :: r)) :
    Calls Tryd.prog 49 #[.pointer (some ⟨rb, 0, none⟩), .int .i64 a, .int .i64 dt] w fun e w' => e = .returned (.int .i64 (offV a x t dt)) ∧ RowAt w' sb (.int .i64 (offS a x t dt) :: r) ∧ w.grownBy w' (some sb) := by
  have r6 := hr.c 6 _ rfl
  have r7 := hr.c 7 _ rfl
  have s0 := hs.c 0 _ rfl
  have sz := hs.fz
  have h0 : (0 : Int) < (n : Int) := by omega
  have HR := Lib.hid hr
  have HX := Lib.hid hs
  by_cases ha : a = 1
  · subst ha
    have HE := Lib.hid (show offS 1 x t dt = -1 by simp [offS])
    have HV := Lib.hid (show offV 1 x t dt = 1 by simp [offV])
    have HS := Lib.hid (row_set HX.out 0 (by simp) (.int .i64 (-1)))
    have HG := Lib.hid (grown_cell w sb 0 (.int .i64 (-1)))
    clear hr hs hx hd
    go_enter Tryd.func49, Tryd.ntmps49
    go_wp2_with fail
    go_ret
    exact ⟨by rw [HV.out]; rfl, by rw [HE.out]; exact HS.out, HG.out⟩
  · have hb : (a == 1) = false := beq_eq_false_iff_ne.2 ha
    by_cases hx1 : x = -1
    · subst hx1
      have HE := Lib.hid (show offS a (-1) t dt = lastsN 0 t by simp [offS, ha])
      have KL := lasts_any rb sb n 0 v0 v1 v2 v3 v4 v5 _ (-1) 0 t _ hn (by omega) w hr hs rfl
      by_cases h3 : 0 < t
      · have HV := Lib.hid (show offV a (-1) t dt = 1 by simp [offV, ha, h3])
        rw [decide_eq_true h3] at KL
        have KL := Lib.hid KL
        clear hr hs ha hx hd h3
        go_enter Tryd.func49, Tryd.ntmps49
        go_wp2_with fail
        refine KL.out.mono ?_
        rintro e w1 ⟨rfl, h1, h2⟩
        have H1 := Lib.hid h1
        have H2 := Lib.hid h2
        clear h1 h2
        go_wp2_with fail
        refine (bit_any _ _).mono ?_
        rintro e wz ⟨rfl, rfl⟩
        go_wp2_with fail
        go_ret
        exact ⟨by rw [HV.out]; rfl, by rw [HE.out]; exact H1.out, H2.out⟩
      · have HV := Lib.hid (show offV a (-1) t dt = 0 by simp [offV, ha, h3])
        rw [decide_eq_false h3] at KL
        have KL := Lib.hid KL
        clear hr hs ha hx hd h3
        go_enter Tryd.func49, Tryd.ntmps49
        go_wp2_with fail
        refine KL.out.mono ?_
        rintro e w1 ⟨rfl, h1, h2⟩
        have H1 := Lib.hid h1
        have H2 := Lib.hid h2
        clear h1 h2
        go_wp2_with fail
        refine (bit_any _ _).mono ?_
        rintro e wz ⟨rfl, rfl⟩
        go_wp2_with fail
        go_ret
        exact ⟨by rw [HV.out]; rfl, by rw [HE.out]; exact H1.out, H2.out⟩
    · have hb1 : (x == -1) = false := beq_eq_false_iff_ne.2 hx1
      by_cases hx0 : x = 0
      · subst hx0
        have HE := Lib.hid (show offS a 0 t dt = 0 by simp [offS, ha])
        have HV := Lib.hid (show offV a 0 t dt = 0 by simp [offV, ha])
        clear hr hs ha hx hd hx1
        go_enter Tryd.func49, Tryd.ntmps49
        go_wp2_with fail
        go_ret
        exact ⟨by rw [HV.out]; rfl, by rw [HE.out]; exact HX.out, grown_refl _ _⟩
      · have hb0 : (x == 0) = false := beq_eq_false_iff_ne.2 hx0
        have HE := Lib.hid (show offS a x t dt = lastsN (x - 1 + dt) t by simp [offS, ha, hx0, hx1])
        have KE := Lib.hid (elapsed_any rb sb n 0 v0 v1 v2 v3 v4 v5 _ x dt _ hn (by omega) (by omega) w hr hs rfl)
        have KL := lasts_any rb sb n 0 v0 v1 v2 v3 v4 v5 _ x (x - 1 + dt) t _ hn (by omega) w hr hs rfl
        by_cases h3 : x - 1 + dt < t
        · have HV := Lib.hid (show offV a x t dt = 1 by simp [offV, ha, h3, hx0, hx1])
          rw [decide_eq_true h3] at KL
          have KL := Lib.hid KL
          clear hr hs ha hx hd h3 hx0 hx1
          go_enter Tryd.func49, Tryd.ntmps49
          go_wp2_with fail
          refine KE.out.mono ?_
          rintro e wz ⟨rfl, rfl⟩
          go_wp2_with fail
          refine KL.out.mono ?_
          rintro e w1 ⟨rfl, h1, h2⟩
          have H1 := Lib.hid h1
          have H2 := Lib.hid h2
          clear h1 h2
          go_wp2_with fail
          refine (bit_any _ _).mono ?_
          rintro e wz ⟨rfl, rfl⟩
          go_wp2_with fail
          go_ret
          exact ⟨by rw [HV.out]; rfl, by rw [HE.out]; exact H1.out, H2.out⟩
        · have HV := Lib.hid (show offV a x t dt = 0 by simp [offV, ha, h3, hx0, hx1])
          rw [decide_eq_false h3] at KL
          have KL := Lib.hid KL
          clear hr hs ha hx hd h3 hx0 hx1
          go_enter Tryd.func49, Tryd.ntmps49
          go_wp2_with fail
          refine KE.out.mono ?_
          rintro e wz ⟨rfl, rfl⟩
          go_wp2_with fail
          refine KL.out.mono ?_
          rintro e w1 ⟨rfl, h1, h2⟩
          have H1 := Lib.hid h1
          have H2 := Lib.hid h2
          clear h1 h2
          go_wp2_with fail
          refine (bit_any _ _).mono ?_
          rintro e wz ⟨rfl, rfl⟩
          go_wp2_with fail
          go_ret
          exact ⟨by rw [HV.out]; rfl, by rw [HE.out]; exact H1.out, H2.out⟩
end Go.Proofs.YtmhfkdnblemfdaaDoor
