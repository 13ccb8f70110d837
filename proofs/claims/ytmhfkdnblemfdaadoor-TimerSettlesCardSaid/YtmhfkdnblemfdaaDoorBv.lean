/- least and minrun of a relay; evaluate there. -/
import Derived.Test.YtmhfkdnblemfdaaDoorBu
namespace Go.Proofs.YtmhfkdnblemfdaaDoor
open Go.RowKit Go.Shelf

def leastN (t1 t0 o : Int) : Int := if o = 1 then t1 else t0
theorem least_any (rb pb po pc sb n : Nat) (v0 v1 v2 v3 v4 v5 : Value) (t1 t0 o : Int) (w : World) (hr : RelAt w rb sb n v0 v1 v2 v3 v4 v5 (.slice (some ⟨pb, po, none⟩) 2 pc)) (p0 : w.cell? ⟨pb, po, none⟩ = some (.int .i64 t1)) (p1 : w.cell? ⟨pb, po + 1, none⟩ = some (.int .i64 t0)) :
    Calls Tryd.prog 43 #[.pointer (some ⟨rb, 0, none⟩), .int .i64 o] w fun e w' => e = .returned (.int .i64 (leastN t1 t0 o)) ∧ w = w' := by
  have r6 := hr.c 6 _ rfl
  clear hr
  by_cases h : o = 1
  · subst h
    go_enter Tryd.func43, Tryd.ntmps43
    go_wp2_with fail
    go_ret
    exact ⟨rfl, rfl⟩
  · have HE := Lib.hid (show leastN t1 t0 o = t0 from if_neg h)
    have hb : (o == 1) = false := beq_eq_false_iff_ne.2 h
    clear h
    go_enter Tryd.func43, Tryd.ntmps43
    go_wp2_with fail
    go_ret
    exact ⟨by rw [HE.out]; rfl, rfl⟩
def mrS0 (t1 t0 a x y dt : Int) : Int := if a = x then x else if y ≠ 0 ∧ y - 1 + dt < leastN t1 t0 x then x else a
def mrS1 (t1 t0 a x y dt : Int) : Int := if a = x ∨ (y ≠ 0 ∧ y - 1 + dt < leastN t1 t0 x) then (if y = 0 then 0 else lastsN (y - 1 + dt) (leastN t1 t0 x)) else lastsN 0 (leastN t1 t0 a)
set_option warningAsError false in
set_option maxHeartbeats 8000000 in
theorem minrun_any (rb sb pb po pc : Nat) (v0 v1 v2 v3 v4 v5 : Value) (t1 t0 a x y dt : Int) (hne : rb ≠ sb) (hpb : pb ≠ sb) (hy : 0 ≤ y ∧ y ≤ 200000) (hd : 0 ≤ dt ∧ dt ≤ 100000) (w : World) (hr : RelAt w rb sb 2 v0 v1 v2 v3 v4 v5 (.slice (some ⟨pb, po, none⟩) 2 pc)) (p0 : w.cell? ⟨pb, po, none⟩ = some (.int .i64 t1)) (p1 : w.cell? ⟨pb, po + 1, none⟩ = some (.int .i64 t0)) (hs : RowAt w sb [.int .i64 x, .int .i64 y]) :
    Calls Tryd.prog 48 #[.pointer (some ⟨rb, 0, none⟩), .int .i64 a, .int .i64 dt] w fun e w' => e = .returned (.int .i64 (mrS0 t1 t0 a x y dt)) ∧ RowAt w' sb [.int .i64 (mrS0 t1 t0 a x y dt), .int .i64 (mrS1 t1 t0 a x y dt)] ∧ w.grownBy w' (some sb) := by
  have HR := Lib.hid hr
  have HX := Lib.hid hs
  have PX := Lib.hid (And.intro p0 p1)
  have r7 := hr.c 7 _ rfl
  have s0 := hs.c 0 _ rfl
  have s1 := hs.c 1 _ rfl
  by_cases hy0 : y = 0
  · subst hy0
    clear hr hs p0 p1
    by_cases ha : a = x
    · have HE0 := Lib.hid (show mrS0 t1 t0 a x 0 dt = x by simp [mrS0, ha])
      have HE1 := Lib.hid (show mrS1 t1 t0 a x 0 dt = 0 by simp [mrS1, ha])
      subst ha
      go_enter Tryd.func48, Tryd.ntmps48
      go_upto_region 1 with fail
      go_quiet ((fail))
      (try simp only [Exit.then])
      obtain ⟨w1, hw1⟩ : ∃ z, z = w.drewN nq := ⟨_, rfl⟩
      rw [← hw1]
      have X1 := Lib.hid (show RowAt w1 sb [.int .i64 a, .int .i64 0] by rw [hw1]; exact HX.out.keep (below_drewN _ _ nq))
      have R1 := Lib.hid (show RelAt w1 rb sb 2 v0 v1 v2 v3 v4 v5 (.slice (some ⟨pb, po, none⟩) 2 pc) by rw [hw1]; exact HR.out.keep (below_drewN _ _ nq))
      have HG1 := Lib.hid (show w.grownBy w1 (some sb) by rw [hw1]; exact ⟨rfl, rfl, rfl, Nat.le_refl _, fun _ _ _ => rfl⟩)
      have P1 := Lib.hid (show w1.cell? ⟨pb, po, none⟩ = some (.int .i64 t1) ∧ w1.cell? ⟨pb, po + 1, none⟩ = some (.int .i64 t0) by rw [hw1]; exact PX.out)
      clear hw1
      clear r7 s0 s1
      have q7 := R1.out.c 7 _ rfl
      have s0 := X1.out.c 0 _ rfl
      go_wp2_with fail
      go_ret
      exact ⟨by rw [HE0.out]; rfl, by rw [HE0.out, HE1.out]; exact X1.out, HG1.out⟩
    · have hb : (a == x) = false := beq_eq_false_iff_ne.2 ha
      have HE0 := Lib.hid (show mrS0 t1 t0 a x 0 dt = a by simp [mrS0, ha])
      have HE1 := Lib.hid (show mrS1 t1 t0 a x 0 dt = lastsN 0 (leastN t1 t0 a) by simp [mrS1, ha])
      have hb2 : (a != x) = true := by rw [bne_iff_ne]; exact ha
      have hb3 : decide (a = x) = false := decide_eq_false ha
      clear ha
      go_enter Tryd.func48, Tryd.ntmps48
      go_upto_region 1 with fail
      go_quiet ((fail))
      (try simp only [Exit.then])
      obtain ⟨w1, hw1⟩ : ∃ z, z = w.drewN nq := ⟨_, rfl⟩
      rw [← hw1]
      have X1 := Lib.hid (show RowAt w1 sb [.int .i64 x, .int .i64 0] by rw [hw1]; exact HX.out.keep (below_drewN _ _ nq))
      have R1 := Lib.hid (show RelAt w1 rb sb 2 v0 v1 v2 v3 v4 v5 (.slice (some ⟨pb, po, none⟩) 2 pc) by rw [hw1]; exact HR.out.keep (below_drewN _ _ nq))
      have HG1 := Lib.hid (show w.grownBy w1 (some sb) by rw [hw1]; exact ⟨rfl, rfl, rfl, Nat.le_refl _, fun _ _ _ => rfl⟩)
      have P1 := Lib.hid (show w1.cell? ⟨pb, po, none⟩ = some (.int .i64 t1) ∧ w1.cell? ⟨pb, po + 1, none⟩ = some (.int .i64 t0) by rw [hw1]; exact PX.out)
      clear hw1
      clear r7 s0 s1
      have HS0 := Lib.hid (row_set X1.out 0 (by simp) (.int .i64 a))
      have HG0 := Lib.hid (grown_trans HG1.out (grown_cell w1 sb 0 (.int .i64 a)))
      have HRR := Lib.hid (row_at R1.out (fun e => hne e.symm) 0 (.int .i64 a))
      have q7 := R1.out.c 7 _ rfl
      have q6 := R1.out.c 6 _ rfl
      have s0 := X1.out.c 0 _ rfl
      have sz := X1.out.fz
      have HPP := Lib.hid (show (w1.setCell ⟨sb, 0, none⟩ (.int .i64 a)).cell? ⟨pb, po, none⟩ = some (.int .i64 t1) ∧ (w1.setCell ⟨sb, 0, none⟩ (.int .i64 a)).cell? ⟨pb, po + 1, none⟩ = some (.int .i64 t0) from ⟨(World.cell?_setCell_other _ _ _ _ (fun e => hpb (congrArg Addr.block e).symm)).trans P1.out.1, (World.cell?_setCell_other _ _ _ _ (fun e => hpb (congrArg Addr.block e).symm)).trans P1.out.2⟩)
      go_wp2_with fail
      refine (least_any rb pb po pc sb 2 v0 v1 v2 v3 v4 v5 t1 t0 a _ HRR.out HPP.out.1 HPP.out.2).mono ?_
      rintro e wz ⟨rfl, rfl⟩
      go_wp2_with fail
      refine (lasts_any rb sb 2 1 v0 v1 v2 v3 v4 v5 _ _ 0 (leastN t1 t0 a) _ (by omega) (by omega) _ HRR.out HS0.out rfl).mono ?_
      rintro e w2 ⟨rfl, h1, h2⟩
      have H1 := Lib.hid h1
      have H2 := Lib.hid (grown_trans HG0.out h2)
      have u0 := h1.c 0 _ rfl
      have KR := row_grown HRR.out h2 (fun e => hne (by injection e))
      have u7 := KR.c 7 _ rfl
      clear h1 h2 KR
      go_wp2_with fail
      go_ret
      exact ⟨by rw [HE0.out]; rfl, by rw [HE0.out, HE1.out]; exact H1.out, H2.out⟩
  · have hy1 : (y == 0) = false := beq_eq_false_iff_ne.2 hy0
    have hy2 : (y != 0) = true := by rw [bne_iff_ne]; exact hy0
    have hy3 : decide (y = 0) = false := decide_eq_false hy0
    have HB0 := Lib.hid (show ∀ W : World, Below w.heap.size w W → W.cell? ⟨rb, 7, none⟩ = some (.slice (some ⟨sb, 0, none⟩) 2 2) ∧ W.cell? ⟨sb, 0, none⟩ = some (.int .i64 x) from fun W hb => ⟨(rel_keep hr hb).c 7 _ rfl, (rel_keep hs hb).c 0 _ rfl⟩)
    have KEL := Lib.hid (fun (W : World) (hb : Below w.heap.size w W) => elapsed_any rb sb 2 1 v0 v1 v2 v3 v4 v5 (.slice (some ⟨pb, po, none⟩) 2 pc) y dt _ (by omega) (by omega) (by omega) W (rel_keep hr hb) (rel_keep hs hb) rfl)
    have KLE := Lib.hid (fun (W : World) (hb : Below w.heap.size w W) => least_any rb pb po pc sb 2 v0 v1 v2 v3 v4 v5 t1 t0 x W (rel_keep hr hb) ((hb.cell (p := ⟨pb, po, none⟩) (World.block_lt_of_cell? _ _ p0)).trans p0) ((hb.cell (p := ⟨pb, po + 1, none⟩) (World.block_lt_of_cell? _ _ p1)).trans p1))
    by_cases h3 : y - 1 + dt < leastN t1 t0 x
    · have KLA := Lib.hid (show ∀ W : World, Below w.heap.size w W → Calls Tryd.prog 60 #[.pointer (some ⟨rb, 0, none⟩), .int .i64 ((1 : Nat) : Int), .int .i64 (y - 1 + dt), .int .i64 (leastN t1 t0 x)] W fun e w' => e = .returned (.bool true) ∧ RowAt w' sb [.int .i64 x, .int .i64 (lastsN (y - 1 + dt) (leastN t1 t0 x))] ∧ W.grownBy w' (some sb) from fun W hb => by
        have h := lasts_any rb sb 2 1 v0 v1 v2 v3 v4 v5 (.slice (some ⟨pb, po, none⟩) 2 pc) y (y - 1 + dt) (leastN t1 t0 x) _ (by omega) (by omega) W (rel_keep hr hb) (rel_keep hs hb) rfl
        rw [decide_eq_true h3] at h
        exact h)
      by_cases ha : a = x
      · have hb1 : (a == x) = true := by rw [beq_iff_eq]; exact ha
        have hb2 : (a != x) = false := by simp [ha]
        have hb3 : decide (a = x) = true := decide_eq_true ha
        have HE0 := Lib.hid (show mrS0 t1 t0 a x y dt = x by simp [mrS0, ha])
        have HE1 := Lib.hid (show mrS1 t1 t0 a x y dt = lastsN (y - 1 + dt) (leastN t1 t0 x) by simp [mrS1, ha, hy0, h3])
        clear ha hy0 h3 hr hs p0 p1 hy hd
        go_enter Tryd.func48, Tryd.ntmps48
        go_upto_region 1 with fail
        go_region_held3 (fun w' => w'.cell? ⟨rb, 7, none⟩ = some (.slice (some ⟨sb, 0, none⟩) 2 2) ∧ w'.cell? ⟨sb, 0, none⟩ = some (.int .i64 x))
          (first | assumption | (exact HB0.out _ (by repeat (first | exact Below.refl _ _ | apply below_al | apply below_dr))) | go_keep)
          (first | (go_at_call 61; refine (KEL.out _ (by repeat (first | exact Below.refl _ _ | apply below_al | apply below_dr))).mono ?_; rintro e wz ⟨rfl, rfl⟩) | (go_at_call 43; refine (KLE.out _ (by repeat (first | exact Below.refl _ _ | apply below_al | apply below_dr))).mono ?_; rintro e wz ⟨rfl, rfl⟩) | (go_at_call 60; refine (KLA.out _ (by repeat (first | exact Below.refl _ _ | apply below_al | apply below_dr))).mono ?_; rintro e w1 ⟨rfl, h1, h2⟩; have hg := grown_below (w := w) (by repeat (first | exact Below.refl _ _ | apply below_al | apply below_dr)) h2; have X1 := Lib.hid h1; have HG1 := Lib.hid hg; have R1 := Lib.hid (row_grown HR.out hg (fun e => hne (by injection e))); have P1 := Lib.hid (show w1.cell? ⟨pb, po, none⟩ = some (.int .i64 t1) ∧ w1.cell? ⟨pb, po + 1, none⟩ = some (.int .i64 t0) from ⟨(hg.cell_far ⟨pb, po, none⟩ (World.block_lt_of_cell? _ _ PX.out.1) (fun e => hpb (by injection e))).trans PX.out.1, (hg.cell_far ⟨pb, po + 1, none⟩ (World.block_lt_of_cell? _ _ PX.out.2) (fun e => hpb (by injection e))).trans PX.out.2⟩); have hk : w1.cell? ⟨rb, 7, none⟩ = some (.slice (some ⟨sb, 0, none⟩) 2 2) ∧ w1.cell? ⟨sb, 0, none⟩ = some (.int .i64 x) := ⟨R1.out.c 7 _ rfl, X1.out.c 0 _ rfl⟩; clear h1 h2 hg))
        all_goals
          rename_i hHeld
          clear hHeld hk
        (try simp only [Exit.then])
        clear r7 s0 s1
        have q7 := R1.out.c 7 _ rfl
        have s0 := X1.out.c 0 _ rfl
        go_wp2_with fail
        go_ret
        exact ⟨by rw [HE0.out]; rfl, by rw [HE0.out, HE1.out]; exact X1.out, HG1.out⟩
      · have hb1 : (a == x) = false := beq_eq_false_iff_ne.2 ha
        have hb2 : (a != x) = true := by rw [bne_iff_ne]; exact ha
        have hb3 : decide (a = x) = false := decide_eq_false ha
        have HE0 := Lib.hid (show mrS0 t1 t0 a x y dt = x by simp [mrS0, ha, hy0, h3])
        have HE1 := Lib.hid (show mrS1 t1 t0 a x y dt = lastsN (y - 1 + dt) (leastN t1 t0 x) by simp [mrS1, ha, hy0, h3])
        clear ha hy0 h3 hr hs p0 p1 hy hd
        go_enter Tryd.func48, Tryd.ntmps48
        go_upto_region 1 with fail
        go_region_held3 (fun w' => w'.cell? ⟨rb, 7, none⟩ = some (.slice (some ⟨sb, 0, none⟩) 2 2) ∧ w'.cell? ⟨sb, 0, none⟩ = some (.int .i64 x))
          (first | assumption | (exact HB0.out _ (by repeat (first | exact Below.refl _ _ | apply below_al | apply below_dr))) | go_keep)
          (first | (go_at_call 61; refine (KEL.out _ (by repeat (first | exact Below.refl _ _ | apply below_al | apply below_dr))).mono ?_; rintro e wz ⟨rfl, rfl⟩) | (go_at_call 43; refine (KLE.out _ (by repeat (first | exact Below.refl _ _ | apply below_al | apply below_dr))).mono ?_; rintro e wz ⟨rfl, rfl⟩) | (go_at_call 60; refine (KLA.out _ (by repeat (first | exact Below.refl _ _ | apply below_al | apply below_dr))).mono ?_; rintro e w1 ⟨rfl, h1, h2⟩; have hg := grown_below (w := w) (by repeat (first | exact Below.refl _ _ | apply below_al | apply below_dr)) h2; have X1 := Lib.hid h1; have HG1 := Lib.hid hg; have R1 := Lib.hid (row_grown HR.out hg (fun e => hne (by injection e))); have P1 := Lib.hid (show w1.cell? ⟨pb, po, none⟩ = some (.int .i64 t1) ∧ w1.cell? ⟨pb, po + 1, none⟩ = some (.int .i64 t0) from ⟨(hg.cell_far ⟨pb, po, none⟩ (World.block_lt_of_cell? _ _ PX.out.1) (fun e => hpb (by injection e))).trans PX.out.1, (hg.cell_far ⟨pb, po + 1, none⟩ (World.block_lt_of_cell? _ _ PX.out.2) (fun e => hpb (by injection e))).trans PX.out.2⟩); have hk : w1.cell? ⟨rb, 7, none⟩ = some (.slice (some ⟨sb, 0, none⟩) 2 2) ∧ w1.cell? ⟨sb, 0, none⟩ = some (.int .i64 x) := ⟨R1.out.c 7 _ rfl, X1.out.c 0 _ rfl⟩; clear h1 h2 hg))
        all_goals
          rename_i hHeld
          clear hHeld hk
        (try simp only [Exit.then])
        clear r7 s0 s1
        have q7 := R1.out.c 7 _ rfl
        have s0 := X1.out.c 0 _ rfl
        go_wp2_with fail
        go_ret
        exact ⟨by rw [HE0.out]; rfl, by rw [HE0.out, HE1.out]; exact X1.out, HG1.out⟩
    · have KLA := Lib.hid (show ∀ W : World, Below w.heap.size w W → Calls Tryd.prog 60 #[.pointer (some ⟨rb, 0, none⟩), .int .i64 ((1 : Nat) : Int), .int .i64 (y - 1 + dt), .int .i64 (leastN t1 t0 x)] W fun e w' => e = .returned (.bool false) ∧ RowAt w' sb [.int .i64 x, .int .i64 (lastsN (y - 1 + dt) (leastN t1 t0 x))] ∧ W.grownBy w' (some sb) from fun W hb => by
        have h := lasts_any rb sb 2 1 v0 v1 v2 v3 v4 v5 (.slice (some ⟨pb, po, none⟩) 2 pc) y (y - 1 + dt) (leastN t1 t0 x) _ (by omega) (by omega) W (rel_keep hr hb) (rel_keep hs hb) rfl
        rw [decide_eq_false h3] at h
        exact h)
      by_cases ha : a = x
      · have hb1 : (a == x) = true := by rw [beq_iff_eq]; exact ha
        have hb2 : (a != x) = false := by simp [ha]
        have hb3 : decide (a = x) = true := decide_eq_true ha
        have HE0 := Lib.hid (show mrS0 t1 t0 a x y dt = x by simp [mrS0, ha])
        have HE1 := Lib.hid (show mrS1 t1 t0 a x y dt = lastsN (y - 1 + dt) (leastN t1 t0 x) by simp [mrS1, ha, hy0, h3])
        clear ha hy0 h3 hr hs p0 p1 hy hd
        go_enter Tryd.func48, Tryd.ntmps48
        go_upto_region 1 with fail
        go_region_held3 (fun w' => w'.cell? ⟨rb, 7, none⟩ = some (.slice (some ⟨sb, 0, none⟩) 2 2) ∧ w'.cell? ⟨sb, 0, none⟩ = some (.int .i64 x))
          (first | assumption | (exact HB0.out _ (by repeat (first | exact Below.refl _ _ | apply below_al | apply below_dr))) | go_keep)
          (first | (go_at_call 61; refine (KEL.out _ (by repeat (first | exact Below.refl _ _ | apply below_al | apply below_dr))).mono ?_; rintro e wz ⟨rfl, rfl⟩) | (go_at_call 43; refine (KLE.out _ (by repeat (first | exact Below.refl _ _ | apply below_al | apply below_dr))).mono ?_; rintro e wz ⟨rfl, rfl⟩) | (go_at_call 60; refine (KLA.out _ (by repeat (first | exact Below.refl _ _ | apply below_al | apply below_dr))).mono ?_; rintro e w1 ⟨rfl, h1, h2⟩; have hg := grown_below (w := w) (by repeat (first | exact Below.refl _ _ | apply below_al | apply below_dr)) h2; have X1 := Lib.hid h1; have HG1 := Lib.hid hg; have R1 := Lib.hid (row_grown HR.out hg (fun e => hne (by injection e))); have P1 := Lib.hid (show w1.cell? ⟨pb, po, none⟩ = some (.int .i64 t1) ∧ w1.cell? ⟨pb, po + 1, none⟩ = some (.int .i64 t0) from ⟨(hg.cell_far ⟨pb, po, none⟩ (World.block_lt_of_cell? _ _ PX.out.1) (fun e => hpb (by injection e))).trans PX.out.1, (hg.cell_far ⟨pb, po + 1, none⟩ (World.block_lt_of_cell? _ _ PX.out.2) (fun e => hpb (by injection e))).trans PX.out.2⟩); have hk : w1.cell? ⟨rb, 7, none⟩ = some (.slice (some ⟨sb, 0, none⟩) 2 2) ∧ w1.cell? ⟨sb, 0, none⟩ = some (.int .i64 x) := ⟨R1.out.c 7 _ rfl, X1.out.c 0 _ rfl⟩; clear h1 h2 hg))
        all_goals
          rename_i hHeld
          clear hHeld hk
        (try simp only [Exit.then])
        clear r7 s0 s1
        have q7 := R1.out.c 7 _ rfl
        have s0 := X1.out.c 0 _ rfl
        go_wp2_with fail
        go_ret
        exact ⟨by rw [HE0.out]; rfl, by rw [HE0.out, HE1.out]; exact X1.out, HG1.out⟩
      · have hb1 : (a == x) = false := beq_eq_false_iff_ne.2 ha
        have hb2 : (a != x) = true := by rw [bne_iff_ne]; exact ha
        have hb3 : decide (a = x) = false := decide_eq_false ha
        have HE0 := Lib.hid (show mrS0 t1 t0 a x y dt = a by simp [mrS0, ha, hy0, h3])
        have HE1 := Lib.hid (show mrS1 t1 t0 a x y dt = lastsN 0 (leastN t1 t0 a) by simp [mrS1, ha, hy0, h3])
        clear ha hy0 h3 hr hs p0 p1 hy hd
        go_enter Tryd.func48, Tryd.ntmps48
        go_upto_region 1 with fail
        go_region_held3 (fun w' => w'.cell? ⟨rb, 7, none⟩ = some (.slice (some ⟨sb, 0, none⟩) 2 2) ∧ w'.cell? ⟨sb, 0, none⟩ = some (.int .i64 x))
          (first | assumption | (exact HB0.out _ (by repeat (first | exact Below.refl _ _ | apply below_al | apply below_dr))) | go_keep)
          (first | (go_at_call 61; refine (KEL.out _ (by repeat (first | exact Below.refl _ _ | apply below_al | apply below_dr))).mono ?_; rintro e wz ⟨rfl, rfl⟩) | (go_at_call 43; refine (KLE.out _ (by repeat (first | exact Below.refl _ _ | apply below_al | apply below_dr))).mono ?_; rintro e wz ⟨rfl, rfl⟩) | (go_at_call 60; refine (KLA.out _ (by repeat (first | exact Below.refl _ _ | apply below_al | apply below_dr))).mono ?_; rintro e w1 ⟨rfl, h1, h2⟩; have hg := grown_below (w := w) (by repeat (first | exact Below.refl _ _ | apply below_al | apply below_dr)) h2; have X1 := Lib.hid h1; have HG1 := Lib.hid hg; have R1 := Lib.hid (row_grown HR.out hg (fun e => hne (by injection e))); have P1 := Lib.hid (show w1.cell? ⟨pb, po, none⟩ = some (.int .i64 t1) ∧ w1.cell? ⟨pb, po + 1, none⟩ = some (.int .i64 t0) from ⟨(hg.cell_far ⟨pb, po, none⟩ (World.block_lt_of_cell? _ _ PX.out.1) (fun e => hpb (by injection e))).trans PX.out.1, (hg.cell_far ⟨pb, po + 1, none⟩ (World.block_lt_of_cell? _ _ PX.out.2) (fun e => hpb (by injection e))).trans PX.out.2⟩); have hk : w1.cell? ⟨rb, 7, none⟩ = some (.slice (some ⟨sb, 0, none⟩) 2 2) ∧ w1.cell? ⟨sb, 0, none⟩ = some (.int .i64 x) := ⟨R1.out.c 7 _ rfl, X1.out.c 0 _ rfl⟩; clear h1 h2 hg))
        all_goals
          rename_i hHeld
          clear hHeld hk
        (try simp only [Exit.then])
        clear r7 s0 s1
        have HS0 := Lib.hid (row_set X1.out 0 (by simp) (.int .i64 a))
        have HG0 := Lib.hid (grown_trans HG1.out (grown_cell w1 sb 0 (.int .i64 a)))
        have HRR := Lib.hid (row_at R1.out (fun e => hne e.symm) 0 (.int .i64 a))
        have q7 := R1.out.c 7 _ rfl
        have q6 := R1.out.c 6 _ rfl
        have s0 := X1.out.c 0 _ rfl
        have sz := X1.out.fz
        have HPP := Lib.hid (show (w1.setCell ⟨sb, 0, none⟩ (.int .i64 a)).cell? ⟨pb, po, none⟩ = some (.int .i64 t1) ∧ (w1.setCell ⟨sb, 0, none⟩ (.int .i64 a)).cell? ⟨pb, po + 1, none⟩ = some (.int .i64 t0) from ⟨(World.cell?_setCell_other _ _ _ _ (fun e => hpb (congrArg Addr.block e).symm)).trans P1.out.1, (World.cell?_setCell_other _ _ _ _ (fun e => hpb (congrArg Addr.block e).symm)).trans P1.out.2⟩)
        go_wp2_with fail
        refine (least_any rb pb po pc sb 2 v0 v1 v2 v3 v4 v5 t1 t0 a _ HRR.out HPP.out.1 HPP.out.2).mono ?_
        rintro e wz ⟨rfl, rfl⟩
        go_wp2_with fail
        refine (lasts_any rb sb 2 1 v0 v1 v2 v3 v4 v5 _ _ 0 (leastN t1 t0 a) _ (by omega) (by omega) _ HRR.out HS0.out rfl).mono ?_
        rintro e w2 ⟨rfl, h1, h2⟩
        have H1 := Lib.hid h1
        have H2 := Lib.hid (grown_trans HG0.out h2)
        have u0 := h1.c 0 _ rfl
        have KR := row_grown HRR.out h2 (fun e => hne (by injection e))
        have u7 := KR.c 7 _ rfl
        clear h1 h2 KR
        go_wp2_with fail
        go_ret
        exact ⟨by rw [HE0.out]; rfl, by rw [HE0.out, HE1.out]; exact H1.out, H2.out⟩
set_option maxHeartbeats 4000000 in
theorem eval_minrun (rb sb pb po pc ib io ic : Nat) (v1 v2 v3 v4 v5 : Value) (t1 t0 a x y dt : Int) (hne : rb ≠ sb) (hpb : pb ≠ sb) (hy : 0 ≤ y ∧ y ≤ 200000) (hd : 0 ≤ dt ∧ dt ≤ 100000) (w : World) (hr : RelAt w rb sb 2 (.string ⟨#[109, 105, 110, 114, 117, 110]⟩) v1 v2 v3 v4 v5 (.slice (some ⟨pb, po, none⟩) 2 pc)) (p0 : w.cell? ⟨pb, po, none⟩ = some (.int .i64 t1)) (p1 : w.cell? ⟨pb, po + 1, none⟩ = some (.int .i64 t0)) (hs : RowAt w sb [.int .i64 x, .int .i64 y]) (i0 : w.cell? ⟨ib, io, none⟩ = some (.int .i64 a)) :
    Calls Tryd.prog 33 #[.pointer (some ⟨rb, 0, none⟩), .slice (some ⟨ib, io, none⟩) 1 ic, .int .i64 dt] w fun e w' => e = .returned (.int .i64 (mrS0 t1 t0 a x y dt)) ∧ RowAt w' sb [.int .i64 (mrS0 t1 t0 a x y dt), .int .i64 (mrS1 t1 t0 a x y dt)] ∧ w.grownBy w' (some sb) := by
  have KE := Lib.hid (minrun_any rb sb pb po pc _ v1 v2 v3 v4 v5 t1 t0 a x y dt hne hpb hy hd w hr p0 p1 hs)
  have r0 := hr.c 0 _ rfl
  clear hr hs p0 p1
  go_enter Tryd.func33, Tryd.ntmps33
  go_wp2_with fail
  refine KE.out.mono ?_
  rintro e w1 ⟨rfl, h1, h2⟩
  have H1 := Lib.hid h1
  have H2 := Lib.hid h2
  clear h1 h2
  go_wp2_with fail
  go_ret
  exact ⟨rfl, H1.out, H2.out⟩
end Go.Proofs.YtmhfkdnblemfdaaDoor
