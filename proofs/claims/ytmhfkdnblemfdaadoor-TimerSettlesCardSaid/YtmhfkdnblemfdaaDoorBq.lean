/- pulse of a relay; evaluate at ondelay, offdelay, pulse. -/
import Derived.Test.YtmhfkdnblemfdaaDoorBp
namespace Go.Proofs.YtmhfkdnblemfdaaDoor
open Go.RowKit Go.Shelf

def pulS (a x y t dt : Int) : Int := if a = 1 ∧ x = 0 then lastsN 0 t else if y = 0 then 0 else lastsN (y - 1 + dt) t
def pulV (a x y t dt : Int) : Int := if a = 1 ∧ x = 0 then (if 0 < t then 1 else 0) else if y = 0 then 0 else if y - 1 + dt < t then 1 else 0
set_option maxHeartbeats 4000000 in
theorem pulse_any (rb sb pb po pc : Nat) (v0 v1 v2 v3 v4 v5 : Value) (a x y t dt : Int) (hne : rb ≠ sb) (hy : 0 ≤ y ∧ y ≤ 200000) (hd : 0 ≤ dt ∧ dt ≤ 100000) (w : World) (hr : RelAt w rb sb 2 v0 v1 v2 v3 v4 v5 (.slice (some ⟨pb, po, none⟩) 1 pc)) (p0 : w.cell? ⟨pb, po, none⟩ = some (.int .i64 t)) (hs : RowAt w sb [.int .i64 x, .int .i64 y]) :
    Calls Tryd.prog 51 #[.pointer (some ⟨rb, 0, none⟩), .int .i64 a, .int .i64 dt] w fun e w' => e = .returned (.int .i64 (pulV a x y t dt)) ∧ RowAt w' sb [.int .i64 a, .int .i64 (pulS a x y t dt)] ∧ w.grownBy w' (some sb) := by
  have r6 := hr.c 6 _ rfl
  have HR := Lib.hid hr
  have ked := edge_any rb sb 2 v0 v1 v2 v3 v4 v5 _ a x [.int .i64 y] (by omega) hne w hr hs
  by_cases hb : a = 1 ∧ x = 0
  · have he : edgeN a x = 1 := if_pos hb
    have HE := Lib.hid (show pulS a x y t dt = lastsN 0 t from if_pos hb)
    rw [he] at ked
    have KED := Lib.hid ked
    by_cases h3 : 0 < t
    · have HV := Lib.hid (show pulV a x y t dt = 1 by unfold pulV; rw [if_pos hb, if_pos h3])
      have HD := Lib.hid (decide_eq_true h3)
      clear hr hs ked he hb hy hd h3
      go_enter Tryd.func51, Tryd.ntmps51
      go_wp2_with fail
      refine KED.out.mono ?_
      rintro e w1 ⟨rfl, h1, h2⟩
      have X1 := Lib.hid h1
      have HG1 := Lib.hid h2
      have R1 := Lib.hid (row_grown HR.out h2 (fun e => hne (by injection e)))
      clear h1 h2
      have KL := lasts_any rb sb 2 1 v0 v1 v2 v3 v4 v5 _ y 0 t _ (by omega) (by omega) w1 R1.out X1.out rfl
      rw [HD.out] at KL
      go_wp2_with fail
      refine KL.mono ?_
      rintro e w2 ⟨rfl, h1, h2⟩
      have H1 := Lib.hid h1
      have H2 := Lib.hid h2
      clear h1 h2
      go_wp2_with fail
      refine (bit_any _ _).mono ?_
      rintro e wz ⟨rfl, rfl⟩
      go_wp2_with fail
      go_ret
      exact ⟨by rw [HV.out]; rfl, by rw [HE.out]; exact H1.out, grown_trans HG1.out H2.out⟩
    · have HV := Lib.hid (show pulV a x y t dt = 0 by unfold pulV; rw [if_pos hb, if_neg h3])
      have HD := Lib.hid (decide_eq_false h3)
      clear hr hs ked he hb hy hd h3
      go_enter Tryd.func51, Tryd.ntmps51
      go_wp2_with fail
      refine KED.out.mono ?_
      rintro e w1 ⟨rfl, h1, h2⟩
      have X1 := Lib.hid h1
      have HG1 := Lib.hid h2
      have R1 := Lib.hid (row_grown HR.out h2 (fun e => hne (by injection e)))
      clear h1 h2
      have KL := lasts_any rb sb 2 1 v0 v1 v2 v3 v4 v5 _ y 0 t _ (by omega) (by omega) w1 R1.out X1.out rfl
      rw [HD.out] at KL
      go_wp2_with fail
      refine KL.mono ?_
      rintro e w2 ⟨rfl, h1, h2⟩
      have H1 := Lib.hid h1
      have H2 := Lib.hid h2
      clear h1 h2
      go_wp2_with fail
      refine (bit_any _ _).mono ?_
      rintro e wz ⟨rfl, rfl⟩
      go_wp2_with fail
      go_ret
      exact ⟨by rw [HV.out]; rfl, by rw [HE.out]; exact H1.out, grown_trans HG1.out H2.out⟩
  · have he : edgeN a x = 0 := if_neg hb
    rw [he] at ked
    have KED := Lib.hid ked
    by_cases hy0 : y = 0
    · subst hy0
      have HE := Lib.hid (show pulS a x 0 t dt = 0 by unfold pulS; rw [if_neg hb]; rfl)
      have HV := Lib.hid (show pulV a x 0 t dt = 0 by unfold pulV; rw [if_neg hb]; rfl)
      clear hr hs ked he hb hy hd
      go_enter Tryd.func51, Tryd.ntmps51
      go_wp2_with fail
      refine KED.out.mono ?_
      rintro e w1 ⟨rfl, h1, h2⟩
      have X1 := Lib.hid h1
      have HG1 := Lib.hid h2
      have R1 := Lib.hid (row_grown HR.out h2 (fun e => hne (by injection e)))
      clear h1 h2
      have s1 := X1.out.c 1 _ rfl
      have r71 := R1.out.c 7 _ rfl
      have rz1 := R1.out.fz
      go_wp2_with fail
      go_ret
      exact ⟨by rw [HV.out]; rfl, by rw [HE.out]; exact X1.out, HG1.out⟩
    · have hb0 : (y == 0) = false := beq_eq_false_iff_ne.2 hy0
      have HE := Lib.hid (show pulS a x y t dt = lastsN (y - 1 + dt) t by unfold pulS; rw [if_neg hb, if_neg hy0])
      have HYD := Lib.hid (show (-1000000 ≤ y ∧ y ≤ 1000000) ∧ (0 ≤ dt ∧ dt ≤ 1000000) ∧ -1000000 ≤ y - 1 + dt ∧ y - 1 + dt ≤ 10000000 by omega)
      by_cases h3 : y - 1 + dt < t
      · have HV := Lib.hid (show pulV a x y t dt = 1 by unfold pulV; rw [if_neg hb, if_neg hy0, if_pos h3])
        have HD := Lib.hid (decide_eq_true h3)
        clear hr hs ked he hb hy hd h3 hy0
        go_enter Tryd.func51, Tryd.ntmps51
        go_wp2_with fail
        refine KED.out.mono ?_
        rintro e w1 ⟨rfl, h1, h2⟩
        have X1 := Lib.hid h1
        have HG1 := Lib.hid h2
        have R1 := Lib.hid (row_grown HR.out h2 (fun e => hne (by injection e)))
        clear h1 h2
        have s1 := X1.out.c 1 _ rfl
        have r71 := R1.out.c 7 _ rfl
        have rz1 := R1.out.fz
        go_wp2_with fail
        refine (elapsed_any rb sb 2 1 v0 v1 v2 v3 v4 v5 _ y dt _ (by omega) HYD.out.1 HYD.out.2.1 w1 R1.out X1.out rfl).mono ?_
        rintro e wz ⟨rfl, rfl⟩
        have KL := lasts_any rb sb 2 1 v0 v1 v2 v3 v4 v5 _ y (y - 1 + dt) t _ (by omega) HYD.out.2.2 w1 R1.out X1.out rfl
        rw [HD.out] at KL
        go_wp2_with fail
        refine KL.mono ?_
        rintro e w2 ⟨rfl, h1, h2⟩
        have H1 := Lib.hid h1
        have H2 := Lib.hid h2
        clear h1 h2
        go_wp2_with fail
        refine (bit_any _ _).mono ?_
        rintro e wz ⟨rfl, rfl⟩
        go_wp2_with fail
        go_ret
        exact ⟨by rw [HV.out]; rfl, by rw [HE.out]; exact H1.out, grown_trans HG1.out H2.out⟩
      · have HV := Lib.hid (show pulV a x y t dt = 0 by unfold pulV; rw [if_neg hb, if_neg hy0, if_neg h3])
        have HD := Lib.hid (decide_eq_false h3)
        clear hr hs ked he hb hy hd h3 hy0
        go_enter Tryd.func51, Tryd.ntmps51
        go_wp2_with fail
        refine KED.out.mono ?_
        rintro e w1 ⟨rfl, h1, h2⟩
        have X1 := Lib.hid h1
        have HG1 := Lib.hid h2
        have R1 := Lib.hid (row_grown HR.out h2 (fun e => hne (by injection e)))
        clear h1 h2
        have s1 := X1.out.c 1 _ rfl
        have r71 := R1.out.c 7 _ rfl
        have rz1 := R1.out.fz
        go_wp2_with fail
        refine (elapsed_any rb sb 2 1 v0 v1 v2 v3 v4 v5 _ y dt _ (by omega) HYD.out.1 HYD.out.2.1 w1 R1.out X1.out rfl).mono ?_
        rintro e wz ⟨rfl, rfl⟩
        have KL := lasts_any rb sb 2 1 v0 v1 v2 v3 v4 v5 _ y (y - 1 + dt) t _ (by omega) HYD.out.2.2 w1 R1.out X1.out rfl
        rw [HD.out] at KL
        go_wp2_with fail
        refine KL.mono ?_
        rintro e w2 ⟨rfl, h1, h2⟩
        have H1 := Lib.hid h1
        have H2 := Lib.hid h2
        clear h1 h2
        go_wp2_with fail
        refine (bit_any _ _).mono ?_
        rintro e wz ⟨rfl, rfl⟩
        go_wp2_with fail
        go_ret
        exact ⟨by rw [HV.out]; rfl, by rw [HE.out]; exact H1.out, grown_trans HG1.out H2.out⟩
end Go.Proofs.YtmhfkdnblemfdaaDoor
