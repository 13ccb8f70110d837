/- count of a relay. -/
import Derived.Test.YtmhfkdnblemfdaaDoorBr
namespace Go.Proofs.YtmhfkdnblemfdaaDoor
open Go.RowKit Go.Shelf

def cntS (a b x y : Int) : Int := if b = 1 then 0 else if a = 1 ∧ x = 0 then min (y + 1) 1000000000 else y
abbrev C3 (rb sb : Nat) (v : Value) (y : Int) (w' : World) : Prop := w'.cell? ⟨rb, 7, none⟩ = some v ∧ w'.cell? ⟨sb, 1, none⟩ = some (.int .i64 y) ∧ w'.frozen? ⟨sb, 1, none⟩ = false
set_option warningAsError false in
set_option maxHeartbeats 4000000 in
theorem count_any (rb sb : Nat) (v0 v1 v2 v3 v4 v5 v6 : Value) (a b x y : Int) (hne : rb ≠ sb) (hy : 0 ≤ y ∧ y ≤ 1000000000) (w : World) (hr : RelAt w rb sb 2 v0 v1 v2 v3 v4 v5 v6) (hs : RowAt w sb [.int .i64 x, .int .i64 y]) :
    Calls Tryd.prog 44 #[.pointer (some ⟨rb, 0, none⟩), .int .i64 a, .int .i64 b] w fun e w' => e = .returned (.int .i64 (1000 * cntS a b x y)) ∧ RowAt w' sb [.int .i64 a, .int .i64 (cntS a b x y)] ∧ w.grownBy w' (some sb) := by
  have HR := Lib.hid hr
  have ked := edge_any rb sb 2 v0 v1 v2 v3 v4 v5 v6 a x [.int .i64 y] (by omega) hne w hr hs
  by_cases hb : b = 1
  · subst hb
    have HE := Lib.hid (show cntS a 1 x y = 0 from if_pos rfl)
    have KED := Lib.hid ked
    have hee : edgeN a x = 0 ∨ edgeN a x = 1 := by unfold edgeN; by_cases h : a = 1 ∧ x = 0 <;> simp [h]
    clear hr hs ked
    obtain ⟨E, hE⟩ : ∃ z, z = edgeN a x := ⟨_, rfl⟩
    rw [← hE] at KED hee
    clear hE
    rcases hee with rfl | rfl
    · go_enter Tryd.func44, Tryd.ntmps44
      go_wp2_with fail
      refine KED.out.mono ?_
      rintro e w1 ⟨rfl, h1, h2⟩
      have X1 := Lib.hid h1
      have HG1 := Lib.hid h2
      have R1 := Lib.hid (row_grown HR.out h2 (fun e => hne (by injection e)))
      clear h1 h2
      have s1 := X1.out.c 1 _ rfl
      have sz := X1.out.fz
      have r71 := R1.out.c 7 _ rfl
      have HS := Lib.hid (row_set X1.out 1 (by simp) (.int .i64 0))
      have HG := Lib.hid (grown_trans HG1.out (grown_cell w1 sb 1 (.int .i64 0)))
      go_wp2_with fail
      go_ret
      exact ⟨by rw [HE.out]; rfl, by rw [HE.out]; exact HS.out, HG.out⟩
    · go_enter Tryd.func44, Tryd.ntmps44
      go_wp2_with fail
      refine KED.out.mono ?_
      rintro e w1 ⟨rfl, h1, h2⟩
      have X1 := Lib.hid h1
      have HG1 := Lib.hid h2
      have R1 := Lib.hid (row_grown HR.out h2 (fun e => hne (by injection e)))
      clear h1 h2
      have s1 := X1.out.c 1 _ rfl
      have sz := X1.out.fz
      have r71 := R1.out.c 7 _ rfl
      have HS := Lib.hid (row_set X1.out 1 (by simp) (.int .i64 0))
      have HG := Lib.hid (grown_trans HG1.out (grown_cell w1 sb 1 (.int .i64 0)))
      go_wp2_with fail
      go_ret
      exact ⟨by rw [HE.out]; rfl, by rw [HE.out]; exact HS.out, HG.out⟩
  · have hbb : (b == 1) = false := beq_eq_false_iff_ne.2 hb
    by_cases h : a = 1 ∧ x = 0
    · obtain ⟨s, hsx⟩ : ∃ s, min (y + 1) 1000000000 = s := ⟨_, rfl⟩
      have HE := Lib.hid (show cntS a b x y = s by unfold cntS; rw [if_neg hb, if_pos h, hsx])
      rw [show edgeN a x = 1 from if_pos h] at ked
      have KED := Lib.hid ked
      have hsb : 0 ≤ s ∧ s ≤ 1000000000 := by omega
      have w1' : IntKind.i64.wrap (y + 1) = y + 1 := IntWalk.i64_in _ (by omega)
      have w2' : IntKind.i64.wrap (1000 * s) = 1000 * s := IntWalk.i64_in _ (by omega)
      clear hr hs ked h hb hy
      go_enter Tryd.func44, Tryd.ntmps44
      go_wp2_with fail
      refine KED.out.mono ?_
      rintro e w1 ⟨rfl, h1, h2⟩
      have X1 := Lib.hid h1
      have HG1 := Lib.hid h2
      have R1 := Lib.hid (row_grown HR.out h2 (fun e => hne (by injection e)))
      clear h1 h2
      have s1 := X1.out.c 1 _ rfl
      have sz := X1.out.fz
      have r71 := R1.out.c 7 _ rfl
      have HC3 := Lib.hid (show C3 rb sb (.slice (some ⟨sb, 0, none⟩) 2 2) y w1 from ⟨r71, s1, sz 1⟩)
      have HK7 := Lib.hid ((row_at R1.out (fun e => hne e.symm) 1 (.int .i64 s)).c 7 _ rfl)
      have HKZ := Lib.hid (show (w1.setCell ⟨sb, 1, none⟩ (.int .i64 s)).frozen? ⟨sb, 1, none⟩ = false by rw [World.frozen?_setCell]; exact sz 1)
      have HS := Lib.hid (row_set X1.out 1 (by simp) (.int .i64 s))
      have HG := Lib.hid (grown_trans HG1.out (grown_cell w1 sb 1 (.int .i64 s)))
      go_upto_region 5 with fail
      go_region_held3 (fun w' => w'.cell? ⟨rb, 7, none⟩ = some (.slice (some ⟨sb, 0, none⟩) 2 2) ∧ w'.frozen? ⟨sb, 1, none⟩ = false)
        (first | assumption | (exact ⟨HK7.out, HKZ.out⟩) | go_keep)
        (first | (fail))
      rename_i hHeld
      clear hHeld s1 sz r71
      have KX := Lib.hid (HS.out.keep (below_dr (Below.refl _ _)))
      have KR := Lib.hid ((row_at R1.out (fun e => hne e.symm) 1 (.int .i64 s)).keep (below_dr (Below.refl _ _)))
      have KG := Lib.hid (grown_trans HG.out (show (w1.setCell ⟨sb, 1, none⟩ (.int .i64 s)).grownBy (w1.setCell ⟨sb, 1, none⟩ (.int .i64 s)).drew (some sb) from ⟨rfl, rfl, rfl, Nat.le_refl _, fun _ _ _ => rfl⟩))
      have q1 := KX.out.c 1 _ rfl
      have q7 := KR.out.c 7 _ rfl
      go_wp2_with fail
      go_ret
      exact ⟨by rw [HE.out]; rfl, by rw [HE.out]; exact KX.out, KG.out⟩
    · have HE := Lib.hid (show cntS a b x y = y by unfold cntS; rw [if_neg hb, if_neg h])
      rw [show edgeN a x = 0 from if_neg h] at ked
      have KED := Lib.hid ked
      have w2' : IntKind.i64.wrap (1000 * y) = 1000 * y := IntWalk.i64_in _ (by omega)
      clear hr hs ked h hb hy
      go_enter Tryd.func44, Tryd.ntmps44
      go_wp2_with fail
      refine KED.out.mono ?_
      rintro e w1 ⟨rfl, h1, h2⟩
      have X1 := Lib.hid h1
      have HG1 := Lib.hid h2
      have R1 := Lib.hid (row_grown HR.out h2 (fun e => hne (by injection e)))
      clear h1 h2
      have s1 := X1.out.c 1 _ rfl
      have sz := X1.out.fz
      have r71 := R1.out.c 7 _ rfl
      go_wp2_with fail
      go_ret
      exact ⟨by rw [HE.out]; rfl, by rw [HE.out]; exact X1.out, HG1.out⟩
end Go.Proofs.YtmhfkdnblemfdaaDoor
