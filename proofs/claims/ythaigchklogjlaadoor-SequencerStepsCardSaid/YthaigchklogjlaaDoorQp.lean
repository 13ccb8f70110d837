/- Contracts of the specification of sequencer: State, Stage, Steps. -/
import Derived.Test.YthaigchklogjlaaDoorQn
namespace Go.Proofs.YthaigchklogjlaaDoor
open Go.RowKit Go.Shelf

set_option linter.unusedVariables false
set_option linter.unusedSimpArgs false
set_option maxHeartbeats 4000000 in
set_option maxRecDepth 100000 in
theorem rstate_stage (pb po np pc : Nat) (hnp : 0 < np) (L : Int) (sa : Option Addr) (sc : Nat) (st : List Int) (w : World) (p0 : w.cell? ⟨pb, po, none⟩ = some (.int .i64 L)) (hst : InS w sa st.length 1 (flat iL st)) :
    Calls Tryd.prog 18 #[.string ⟨#[115, 116, 97, 103, 101]⟩, .slice (some ⟨pb, po, none⟩) np pc, .slice sa st.length sc] w fun e w' => e = .returned (.bool (resB (-6311433599) L st)) ∧ Below w.heap.size w w' := by
  by_cases h2 : st.length = 2
  · obtain ⟨a, c, rfl⟩ : ∃ a c, st = [a, c] := by
      match st, h2 with
      | [a, c], _ => exact ⟨a, c, rfl⟩
    clear h2
    obtain ⟨sb, so, rfl, hsl, hsc⟩ := hst.at iL_len (by simp)
    have s0 : w.cell? ⟨sb, so, none⟩ = some (.int .i64 a) := by have h := hsc 0 _ rfl 0 _ rfl; simpa using h
    have s1 : w.cell? ⟨sb, so + 1, none⟩ = some (.int .i64 c) := by have h := hsc 1 _ rfl 0 _ rfl; simpa using h
    have HC := Lib.hid (And.intro s0 s1)
    clear hst hsl hsc
    obtain ⟨R, hR⟩ : ∃ x, x = resB (-6311433599) L [a, c] := ⟨_, rfl⟩
    rw [← hR]
    by_cases h1 : a < 0
    · have HR := Lib.hid (show R = false by rw [hR]; show (inR 0 a L && inR (-6311433599) c 6311433599) = false; rw [inR_no (fun h => by omega), Bool.false_and])
      clear hR
      go_enter Tryd.func18, Tryd.ntmps18
      go_wp2_with fail
      go_quiet (fail)
      go_wp2_with fail
      go_ret
      exact ⟨by rw [HR.out]; first | rfl | (refine congrArg (fun b => Ending.returned (Value.bool b)) ?_; exact decide_eq_false (by omega)), below_drewN _ _ _⟩
    · by_cases h2 : L < a
      · have HR := Lib.hid (show R = false by rw [hR]; show (inR 0 a L && inR (-6311433599) c 6311433599) = false; rw [inR_no (fun h => by omega), Bool.false_and])
        clear hR
        go_enter Tryd.func18, Tryd.ntmps18
        go_wp2_with fail
        go_quiet (fail)
        go_wp2_with fail
        go_ret
        exact ⟨by rw [HR.out]; first | rfl | (refine congrArg (fun b => Ending.returned (Value.bool b)) ?_; exact decide_eq_false (by omega)), below_drewN _ _ _⟩
      · by_cases h3 : 6311433599 < c
        · have HR := Lib.hid (show R = false by rw [hR]; show (inR 0 a L && inR (-6311433599) c 6311433599) = false; rw [inR_no (lo := (-6311433599)) (n := c) (fun h => by omega), Bool.and_false])
          clear hR
          go_enter Tryd.func18, Tryd.ntmps18
          go_wp2_with fail
          go_quiet (fail)
          go_wp2_with fail
          go_ret
          exact ⟨by rw [HR.out]; first | rfl | (refine congrArg (fun b => Ending.returned (Value.bool b)) ?_; exact decide_eq_false (by omega)), below_drewN _ _ _⟩
        · by_cases h4 : (-6311433599) ≤ c
          · have HR := Lib.hid (show R = true by rw [hR]; show (inR 0 a L && inR (-6311433599) c 6311433599) = true; rw [inR_yes (by omega) (by omega), inR_yes h4 (by omega)]; rfl)
            clear hR
            go_enter Tryd.func18, Tryd.ntmps18
            go_wp2_with fail
            go_quiet (fail)
            have q1 := cell_below HC.out.2 (below_drewN w.heap.size w nq)
            go_wp2_with fail
            go_ret
            exact ⟨by rw [HR.out]; first | rfl | (refine congrArg (fun b => Ending.returned (Value.bool b)) ?_; exact decide_eq_false (by omega)), below_drewN _ _ _⟩
          · have HR := Lib.hid (show R = false by rw [hR]; show (inR 0 a L && inR (-6311433599) c 6311433599) = false; rw [inR_no (lo := (-6311433599)) (n := c) (fun h => by omega), Bool.and_false])
            clear hR
            go_enter Tryd.func18, Tryd.ntmps18
            go_wp2_with fail
            go_quiet (fail)
            have q1 := cell_below HC.out.2 (below_drewN w.heap.size w nq)
            go_wp2_with fail
            go_ret
            exact ⟨by rw [HR.out]; first | rfl | (refine congrArg (fun b => Ending.returned (Value.bool b)) ?_; exact decide_eq_false (by omega)), below_drewN _ _ _⟩
  · have HR := Lib.hid (show resB (-6311433599) L st = false by unfold resB; split; exact absurd rfl h2; rfl)
    have m63 := hst.2.1
    obtain ⟨M, hM⟩ : ∃ M, M = st.length := ⟨_, rfl⟩
    obtain ⟨R, hR⟩ : ∃ x, x = resB (-6311433599) L st := ⟨_, rfl⟩
    rw [← hM] at h2 m63 ⊢
    rw [← hR] at HR ⊢
    have h3 : ¬ ((M : Int) = 2) := by omega
    clear hst hM hR h2
    go_enter Tryd.func18, Tryd.ntmps18
    go_wp2_with fail
    go_quiet (fail)
    go_wp2_with fail
    go_ret
    exact ⟨by rw [HR.out]; first | rfl | (refine congrArg (fun b => Ending.returned (Value.bool b)) ?_; exact decide_eq_false (by omega)), below_drewN _ _ _⟩
set_option maxHeartbeats 4000000 in
set_option maxRecDepth 100000 in
theorem rstate_steps (pb po np pc : Nat) (hnp : 0 < np) (L : Int) (sa : Option Addr) (sc : Nat) (st : List Int) (w : World) (p0 : w.cell? ⟨pb, po, none⟩ = some (.int .i64 L)) (hst : InS w sa st.length 1 (flat iL st)) :
    Calls Tryd.prog 18 #[.string ⟨#[115, 116, 101, 112, 115]⟩, .slice (some ⟨pb, po, none⟩) np pc, .slice sa st.length sc] w fun e w' => e = .returned (.bool (resB 0 L st)) ∧ Below w.heap.size w w' := by
  by_cases h2 : st.length = 2
  · obtain ⟨a, c, rfl⟩ : ∃ a c, st = [a, c] := by
      match st, h2 with
      | [a, c], _ => exact ⟨a, c, rfl⟩
    clear h2
    obtain ⟨sb, so, rfl, hsl, hsc⟩ := hst.at iL_len (by simp)
    have s0 : w.cell? ⟨sb, so, none⟩ = some (.int .i64 a) := by have h := hsc 0 _ rfl 0 _ rfl; simpa using h
    have s1 : w.cell? ⟨sb, so + 1, none⟩ = some (.int .i64 c) := by have h := hsc 1 _ rfl 0 _ rfl; simpa using h
    have HC := Lib.hid (And.intro s0 s1)
    clear hst hsl hsc
    obtain ⟨R, hR⟩ : ∃ x, x = resB 0 L [a, c] := ⟨_, rfl⟩
    rw [← hR]
    by_cases h1 : a < 0
    · have HR := Lib.hid (show R = false by rw [hR]; show (inR 0 a L && inR 0 c 6311433599) = false; rw [inR_no (fun h => by omega), Bool.false_and])
      clear hR
      go_enter Tryd.func18, Tryd.ntmps18
      go_wp2_with fail
      go_quiet (fail)
      go_wp2_with fail
      go_ret
      exact ⟨by rw [HR.out]; first | rfl | (refine congrArg (fun b => Ending.returned (Value.bool b)) ?_; exact decide_eq_false (by omega)), below_drewN _ _ _⟩
    · by_cases h2 : L < a
      · have HR := Lib.hid (show R = false by rw [hR]; show (inR 0 a L && inR 0 c 6311433599) = false; rw [inR_no (fun h => by omega), Bool.false_and])
        clear hR
        go_enter Tryd.func18, Tryd.ntmps18
        go_wp2_with fail
        go_quiet (fail)
        go_wp2_with fail
        go_ret
        exact ⟨by rw [HR.out]; first | rfl | (refine congrArg (fun b => Ending.returned (Value.bool b)) ?_; exact decide_eq_false (by omega)), below_drewN _ _ _⟩
      · by_cases h3 : 6311433599 < c
        · have HR := Lib.hid (show R = false by rw [hR]; show (inR 0 a L && inR 0 c 6311433599) = false; rw [inR_no (lo := 0) (n := c) (fun h => by omega), Bool.and_false])
          clear hR
          go_enter Tryd.func18, Tryd.ntmps18
          go_wp2_with fail
          go_quiet (fail)
          go_wp2_with fail
          go_ret
          exact ⟨by rw [HR.out]; first | rfl | (refine congrArg (fun b => Ending.returned (Value.bool b)) ?_; exact decide_eq_false (by omega)), below_drewN _ _ _⟩
        · by_cases h4 : 0 ≤ c
          · have HR := Lib.hid (show R = true by rw [hR]; show (inR 0 a L && inR 0 c 6311433599) = true; rw [inR_yes (by omega) (by omega), inR_yes h4 (by omega)]; rfl)
            clear hR
            go_enter Tryd.func18, Tryd.ntmps18
            go_wp2_with fail
            go_quiet (fail)
            have q1 := cell_below HC.out.2 (below_drewN w.heap.size w nq)
            go_wp2_with fail
            go_ret
            exact ⟨by rw [HR.out]; first | rfl | (refine congrArg (fun b => Ending.returned (Value.bool b)) ?_; exact decide_eq_false (by omega)), below_drewN _ _ _⟩
          · have HR := Lib.hid (show R = false by rw [hR]; show (inR 0 a L && inR 0 c 6311433599) = false; rw [inR_no (lo := 0) (n := c) (fun h => by omega), Bool.and_false])
            clear hR
            go_enter Tryd.func18, Tryd.ntmps18
            go_wp2_with fail
            go_quiet (fail)
            have q1 := cell_below HC.out.2 (below_drewN w.heap.size w nq)
            go_wp2_with fail
            go_ret
            exact ⟨by rw [HR.out]; first | rfl | (refine congrArg (fun b => Ending.returned (Value.bool b)) ?_; exact decide_eq_false (by omega)), below_drewN _ _ _⟩
  · have HR := Lib.hid (show resB 0 L st = false by unfold resB; split; exact absurd rfl h2; rfl)
    have m63 := hst.2.1
    obtain ⟨M, hM⟩ : ∃ M, M = st.length := ⟨_, rfl⟩
    obtain ⟨R, hR⟩ : ∃ x, x = resB 0 L st := ⟨_, rfl⟩
    rw [← hM] at h2 m63 ⊢
    rw [← hR] at HR ⊢
    have h3 : ¬ ((M : Int) = 2) := by omega
    clear hst hM hR h2
    go_enter Tryd.func18, Tryd.ntmps18
    go_wp2_with fail
    go_quiet (fail)
    go_wp2_with fail
    go_ret
    exact ⟨by rw [HR.out]; first | rfl | (refine congrArg (fun b => Ending.returned (Value.bool b)) ?_; exact decide_eq_false (by omega)), below_drewN _ _ _⟩
set_option maxHeartbeats 8000000 in
set_option maxRecDepth 100000 in
theorem rstage_any (L up dn ud dd d dt P T : Int) (pb po pc sb so sc : Nat) (w : World) (hu : 0 ≤ ud ∧ ud ≤ 86400) (hd : 0 ≤ dd ∧ dd ≤ 86400) (hdt : 1 ≤ dt ∧ dt ≤ 86400) (hP : 0 ≤ P ∧ P ≤ 15) (hT : -6311433599 ≤ T ∧ T ≤ 6311433599) (p0 : w.cell? ⟨pb, po, none⟩ = some (.int .i64 L)) (p1 : w.cell? ⟨pb, po + 1, none⟩ = some (.int .i64 up)) (p2 : w.cell? ⟨pb, po + 2, none⟩ = some (.int .i64 dn)) (p3 : w.cell? ⟨pb, po + 3, none⟩ = some (.int .i64 ud)) (p4 : w.cell? ⟨pb, po + 4, none⟩ = some (.int .i64 dd)) (s0 : w.cell? ⟨sb, so, none⟩ = some (.int .i64 P)) (s1 : w.cell? ⟨sb, so + 1, none⟩ = some (.int .i64 T)) :
    Calls Tryd.prog 31 #[.slice (some ⟨pb, po, none⟩) 5 pc, .slice (some ⟨sb, so, none⟩) 2 sc, .int .i64 d, .int .i64 dt] w fun e w' => ∃ g, e = .returned (.slice (some ⟨g, 0, none⟩) 2 2) ∧ w.heap.size ≤ g ∧ RowAt w' g [.int .i64 (stageS L up dn ud dd d dt P T).1, .int .i64 (stageS L up dn ud dd d dt P T).2] ∧ Below w.heap.size w w' := by
  have HP := Lib.hid (And.intro p0 (And.intro p1 (And.intro p2 (And.intro p3 p4))))
  clear p0 p1 p2 p3 p4
  have e1 : IntKind.i64.wrap (max T 0 + dt) = max T 0 + dt := IntWalk.i64_in _ (by omega)
  have e2 : IntKind.i64.wrap (min T 0 - dt) = min T 0 - dt := IntWalk.i64_in _ (by omega)
  have e3 : IntKind.i64.wrap (P + 1) = P + 1 := IntWalk.i64_in _ (by omega)
  have e4 : IntKind.i64.wrap (P - 1) = P - 1 := IntWalk.i64_in _ (by omega)
  have e5 : IntKind.i64.wrap (-(max (min T 0 - dt) (-6311433599))) = -(max (min T 0 - dt) (-6311433599)) := IntWalk.i64_in _ (by omega)
  by_cases h1 : up < d
  · by_cases h2 : P < L
    · by_cases h3 : ud ≤ max T 0 + dt
      · have h7 : ud ≤ min (max T 0 + dt) 6311433599 := by omega
        have HS := Lib.hid (show stageS L up dn ud dd d dt P T = (P + 1, 0) by unfold stageS; rw [if_pos ⟨h1, h2⟩, if_pos h3])
        go_enter Tryd.func31, Tryd.ntmps31
        go_wp2_with fail
        go_quiet (fail)
        obtain ⟨w1, hw1⟩ : ∃ x, x = w.drewN nq := ⟨_, rfl⟩
        have hb1 : Below w.heap.size w w1 := by rw [hw1]; exact below_drewN _ _ _
        have HB1 := Lib.hid hb1
        have c0 := cell_below HP.out.1 hb1
        have c1 := cell_below HP.out.2.1 hb1
        have c2 := cell_below HP.out.2.2.1 hb1
        have c3 := cell_below HP.out.2.2.2.1 hb1
        have c4 := cell_below HP.out.2.2.2.2 hb1
        rw [← hw1]
        clear hw1 hb1
        go_wp2_with fail
        go_ret
        rw [HS.out]
        refine ⟨_, rfl, HB1.out.size, ?_, HB1.out.alloc HB1.out.size _⟩
        exact row_fresh w1 _ _
      · have h7 : ¬ ud ≤ min (max T 0 + dt) 6311433599 := by omega
        have HS := Lib.hid (show stageS L up dn ud dd d dt P T = (P, max T 0 + dt) by unfold stageS; rw [if_pos ⟨h1, h2⟩, if_neg h3])
        go_enter Tryd.func31, Tryd.ntmps31
        go_wp2_with fail
        go_quiet (fail)
        obtain ⟨w1, hw1⟩ : ∃ x, x = w.drewN nq := ⟨_, rfl⟩
        have hb1 : Below w.heap.size w w1 := by rw [hw1]; exact below_drewN _ _ _
        have HB1 := Lib.hid hb1
        have c0 := cell_below HP.out.1 hb1
        have c1 := cell_below HP.out.2.1 hb1
        have c2 := cell_below HP.out.2.2.1 hb1
        have c3 := cell_below HP.out.2.2.2.1 hb1
        have c4 := cell_below HP.out.2.2.2.2 hb1
        rw [← hw1]
        clear hw1 hb1
        go_wp2_with fail
        go_ret
        rw [HS.out]
        refine ⟨_, rfl, HB1.out.size, ?_, HB1.out.alloc HB1.out.size _⟩
        have hX : min (max T 0 + dt) 6311433599 = max T 0 + dt := by omega
        rw [hX]
        exact row_fresh w1 _ _
    · by_cases h4 : d < dn
      · by_cases h5 : 0 < P
        · by_cases h6 : dd ≤ -(min T 0 - dt)
          · have h7 : dd ≤ -(max (min T 0 - dt) (-6311433599)) := by omega
            have HS := Lib.hid (show stageS L up dn ud dd d dt P T = (P - 1, 0) by unfold stageS; rw [if_neg (fun h => h2 h.2), if_pos ⟨h4, h5⟩, if_pos h6])
            go_enter Tryd.func31, Tryd.ntmps31
            go_wp2_with fail
            go_quiet (fail)
            obtain ⟨w1, hw1⟩ : ∃ x, x = w.drewN nq := ⟨_, rfl⟩
            have hb1 : Below w.heap.size w w1 := by rw [hw1]; exact below_drewN _ _ _
            have HB1 := Lib.hid hb1
            have c0 := cell_below HP.out.1 hb1
            have c1 := cell_below HP.out.2.1 hb1
            have c2 := cell_below HP.out.2.2.1 hb1
            have c3 := cell_below HP.out.2.2.2.1 hb1
            have c4 := cell_below HP.out.2.2.2.2 hb1
            rw [← hw1]
            clear hw1 hb1
            go_wp2_with fail
            go_ret
            rw [HS.out]
            refine ⟨_, rfl, HB1.out.size, ?_, HB1.out.alloc HB1.out.size _⟩
            exact row_fresh w1 _ _
          · have h7 : ¬ dd ≤ -(max (min T 0 - dt) (-6311433599)) := by omega
            have HS := Lib.hid (show stageS L up dn ud dd d dt P T = (P, min T 0 - dt) by unfold stageS; rw [if_neg (fun h => h2 h.2), if_pos ⟨h4, h5⟩, if_neg h6])
            go_enter Tryd.func31, Tryd.ntmps31
            go_wp2_with fail
            go_quiet (fail)
            obtain ⟨w1, hw1⟩ : ∃ x, x = w.drewN nq := ⟨_, rfl⟩
            have hb1 : Below w.heap.size w w1 := by rw [hw1]; exact below_drewN _ _ _
            have HB1 := Lib.hid hb1
            have c0 := cell_below HP.out.1 hb1
            have c1 := cell_below HP.out.2.1 hb1
            have c2 := cell_below HP.out.2.2.1 hb1
            have c3 := cell_below HP.out.2.2.2.1 hb1
            have c4 := cell_below HP.out.2.2.2.2 hb1
            rw [← hw1]
            clear hw1 hb1
            go_wp2_with fail
            go_ret
            rw [HS.out]
            refine ⟨_, rfl, HB1.out.size, ?_, HB1.out.alloc HB1.out.size _⟩
            have hX : max (min T 0 - dt) (-6311433599) = min T 0 - dt := by omega
            rw [hX]
            exact row_fresh w1 _ _
        · have HS := Lib.hid (show stageS L up dn ud dd d dt P T = (P, 0) by unfold stageS; rw [if_neg (fun h => h2 h.2), if_neg (fun h => h5 h.2)])
          go_enter Tryd.func31, Tryd.ntmps31
          go_wp2_with fail
          go_quiet (fail)
          obtain ⟨w1, hw1⟩ : ∃ x, x = w.drewN nq := ⟨_, rfl⟩
          have hb1 : Below w.heap.size w w1 := by rw [hw1]; exact below_drewN _ _ _
          have HB1 := Lib.hid hb1
          have c0 := cell_below HP.out.1 hb1
          have c1 := cell_below HP.out.2.1 hb1
          have c2 := cell_below HP.out.2.2.1 hb1
          have c3 := cell_below HP.out.2.2.2.1 hb1
          have c4 := cell_below HP.out.2.2.2.2 hb1
          rw [← hw1]
          clear hw1 hb1
          go_wp2_with fail
          go_ret
          rw [HS.out]
          refine ⟨_, rfl, HB1.out.size, ?_, HB1.out.alloc HB1.out.size _⟩
          exact row_fresh w1 _ _
      · have HS := Lib.hid (show stageS L up dn ud dd d dt P T = (P, 0) by unfold stageS; rw [if_neg (fun h => h2 h.2), if_neg (fun h => h4 h.1)])
        go_enter Tryd.func31, Tryd.ntmps31
        go_wp2_with fail
        go_quiet (fail)
        obtain ⟨w1, hw1⟩ : ∃ x, x = w.drewN nq := ⟨_, rfl⟩
        have hb1 : Below w.heap.size w w1 := by rw [hw1]; exact below_drewN _ _ _
        have HB1 := Lib.hid hb1
        have c0 := cell_below HP.out.1 hb1
        have c1 := cell_below HP.out.2.1 hb1
        have c2 := cell_below HP.out.2.2.1 hb1
        have c3 := cell_below HP.out.2.2.2.1 hb1
        have c4 := cell_below HP.out.2.2.2.2 hb1
        rw [← hw1]
        clear hw1 hb1
        go_wp2_with fail
        go_ret
        rw [HS.out]
        refine ⟨_, rfl, HB1.out.size, ?_, HB1.out.alloc HB1.out.size _⟩
        exact row_fresh w1 _ _
  · by_cases h4 : d < dn
    · by_cases h5 : 0 < P
      · by_cases h6 : dd ≤ -(min T 0 - dt)
        · have h7 : dd ≤ -(max (min T 0 - dt) (-6311433599)) := by omega
          have HS := Lib.hid (show stageS L up dn ud dd d dt P T = (P - 1, 0) by unfold stageS; rw [if_neg (fun h => h1 h.1), if_pos ⟨h4, h5⟩, if_pos h6])
          go_enter Tryd.func31, Tryd.ntmps31
          go_wp2_with fail
          go_quiet (fail)
          obtain ⟨w1, hw1⟩ : ∃ x, x = w.drewN nq := ⟨_, rfl⟩
          have hb1 : Below w.heap.size w w1 := by rw [hw1]; exact below_drewN _ _ _
          have HB1 := Lib.hid hb1
          have c0 := cell_below HP.out.1 hb1
          have c1 := cell_below HP.out.2.1 hb1
          have c2 := cell_below HP.out.2.2.1 hb1
          have c3 := cell_below HP.out.2.2.2.1 hb1
          have c4 := cell_below HP.out.2.2.2.2 hb1
          rw [← hw1]
          clear hw1 hb1
          go_wp2_with fail
          go_ret
          rw [HS.out]
          refine ⟨_, rfl, HB1.out.size, ?_, HB1.out.alloc HB1.out.size _⟩
          exact row_fresh w1 _ _
        · have h7 : ¬ dd ≤ -(max (min T 0 - dt) (-6311433599)) := by omega
          have HS := Lib.hid (show stageS L up dn ud dd d dt P T = (P, min T 0 - dt) by unfold stageS; rw [if_neg (fun h => h1 h.1), if_pos ⟨h4, h5⟩, if_neg h6])
          go_enter Tryd.func31, Tryd.ntmps31
          go_wp2_with fail
          go_quiet (fail)
          obtain ⟨w1, hw1⟩ : ∃ x, x = w.drewN nq := ⟨_, rfl⟩
          have hb1 : Below w.heap.size w w1 := by rw [hw1]; exact below_drewN _ _ _
          have HB1 := Lib.hid hb1
          have c0 := cell_below HP.out.1 hb1
          have c1 := cell_below HP.out.2.1 hb1
          have c2 := cell_below HP.out.2.2.1 hb1
          have c3 := cell_below HP.out.2.2.2.1 hb1
          have c4 := cell_below HP.out.2.2.2.2 hb1
          rw [← hw1]
          clear hw1 hb1
          go_wp2_with fail
          go_ret
          rw [HS.out]
          refine ⟨_, rfl, HB1.out.size, ?_, HB1.out.alloc HB1.out.size _⟩
          have hX : max (min T 0 - dt) (-6311433599) = min T 0 - dt := by omega
          rw [hX]
          exact row_fresh w1 _ _
      · have HS := Lib.hid (show stageS L up dn ud dd d dt P T = (P, 0) by unfold stageS; rw [if_neg (fun h => h1 h.1), if_neg (fun h => h5 h.2)])
        go_enter Tryd.func31, Tryd.ntmps31
        go_wp2_with fail
        go_quiet (fail)
        obtain ⟨w1, hw1⟩ : ∃ x, x = w.drewN nq := ⟨_, rfl⟩
        have hb1 : Below w.heap.size w w1 := by rw [hw1]; exact below_drewN _ _ _
        have HB1 := Lib.hid hb1
        have c0 := cell_below HP.out.1 hb1
        have c1 := cell_below HP.out.2.1 hb1
        have c2 := cell_below HP.out.2.2.1 hb1
        have c3 := cell_below HP.out.2.2.2.1 hb1
        have c4 := cell_below HP.out.2.2.2.2 hb1
        rw [← hw1]
        clear hw1 hb1
        go_wp2_with fail
        go_ret
        rw [HS.out]
        refine ⟨_, rfl, HB1.out.size, ?_, HB1.out.alloc HB1.out.size _⟩
        exact row_fresh w1 _ _
    · have HS := Lib.hid (show stageS L up dn ud dd d dt P T = (P, 0) by unfold stageS; rw [if_neg (fun h => h1 h.1), if_neg (fun h => h4 h.1)])
      go_enter Tryd.func31, Tryd.ntmps31
      go_wp2_with fail
      go_quiet (fail)
      obtain ⟨w1, hw1⟩ : ∃ x, x = w.drewN nq := ⟨_, rfl⟩
      have hb1 : Below w.heap.size w w1 := by rw [hw1]; exact below_drewN _ _ _
      have HB1 := Lib.hid hb1
      have c0 := cell_below HP.out.1 hb1
      have c1 := cell_below HP.out.2.1 hb1
      have c2 := cell_below HP.out.2.2.1 hb1
      have c3 := cell_below HP.out.2.2.2.1 hb1
      have c4 := cell_below HP.out.2.2.2.2 hb1
      rw [← hw1]
      clear hw1 hb1
      go_wp2_with fail
      go_ret
      rw [HS.out]
      refine ⟨_, rfl, HB1.out.size, ?_, HB1.out.alloc HB1.out.size _⟩
      exact row_fresh w1 _ _
set_option maxHeartbeats 8000000 in
set_option maxRecDepth 100000 in
theorem rsteps_any (L least dt P T : Int) (go nx : Bool) (pb po pc sb so sc : Nat) (w : World) (hdt : 1 ≤ dt ∧ dt ≤ 86400) (hP : 0 ≤ P ∧ P ≤ 1000) (hT : 0 ≤ T ∧ T ≤ 6311433599) (p0 : w.cell? ⟨pb, po, none⟩ = some (.int .i64 L)) (p1 : w.cell? ⟨pb, po + 1, none⟩ = some (.int .i64 least)) (s0 : w.cell? ⟨sb, so, none⟩ = some (.int .i64 P)) (s1 : w.cell? ⟨sb, so + 1, none⟩ = some (.int .i64 T)) :
    Calls Tryd.prog 32 #[.slice (some ⟨pb, po, none⟩) 2 pc, .slice (some ⟨sb, so, none⟩) 2 sc, .bool go, .bool nx, .int .i64 dt] w fun e w' => ∃ g, e = .returned (.slice (some ⟨g, 0, none⟩) 2 2) ∧ w.heap.size ≤ g ∧ RowAt w' g [.int .i64 (stepsS L least go nx dt P T).1, .int .i64 (stepsS L least go nx dt P T).2] ∧ Below w.heap.size w w' := by
  have HC := Lib.hid (And.intro s0 p0)
  have e1 : IntKind.i64.wrap (T + dt) = T + dt := IntWalk.i64_in _ (by omega)
  have e3 : IntKind.i64.wrap (P + 1) = P + 1 := IntWalk.i64_in _ (by omega)
  cases go
  · have HS := Lib.hid (show stepsS L least false nx dt P T = (0, 0) by unfold stepsS; rw [if_pos rfl])
    obtain ⟨S, hS⟩ : ∃ x, x = stepsS L least false nx dt P T := ⟨_, rfl⟩
    rw [← hS] at HS ⊢
    clear hS
    obtain ⟨w1, hw1⟩ : ∃ x, x = w := ⟨_, rfl⟩
    have HB1 := Lib.hid (show Below w.heap.size w w1 by rw [hw1]; exact Below.refl _ _)
    go_enter Tryd.func32, Tryd.ntmps32
    go_wp2_with fail
    subst hw1
    go_ret
    rw [HS.out]
    refine ⟨_, rfl, HB1.out.size, ?_, HB1.out.alloc HB1.out.size _⟩
    exact row_fresh _ _ _
  · by_cases hp0 : P = 0
    · have HS := Lib.hid (show stepsS L least true nx dt P T = (1, 0) by unfold stepsS; rw [if_neg (fun h => by cases h), if_pos hp0])
      obtain ⟨S, hS⟩ : ∃ x, x = stepsS L least true nx dt P T := ⟨_, rfl⟩
      rw [← hS] at HS ⊢
      clear hS
      have e0 : (P == 0) = true := by rw [beq_iff_eq]; exact hp0
      have HP0 := Lib.hid hp0
      clear hp0
      obtain ⟨w1, hw1⟩ : ∃ x, x = w := ⟨_, rfl⟩
      have HB1 := Lib.hid (show Below w.heap.size w w1 by rw [hw1]; exact Below.refl _ _)
      go_enter Tryd.func32, Tryd.ntmps32
      go_wp2_with fail
      subst hw1
      go_ret
      rw [HS.out]
      refine ⟨_, rfl, HB1.out.size, ?_, HB1.out.alloc HB1.out.size _⟩
      exact row_fresh _ _ _
    · by_cases h1 : P < L
      · cases nx
        · have HS := Lib.hid (show stepsS L least true false dt P T = (P, min (T + dt) 6311433599) by unfold stepsS; rw [if_neg (fun h => by cases h), if_neg hp0, if_neg (fun h => by cases h.2.1)])
          obtain ⟨S, hS⟩ : ∃ x, x = stepsS L least true false dt P T := ⟨_, rfl⟩
          rw [← hS] at HS ⊢
          clear hS
          have e0 : (P == 0) = false := by rw [beq_eq_false_iff_ne]; exact hp0
          have HP0 := Lib.hid hp0
          clear hp0
          go_enter Tryd.func32, Tryd.ntmps32
          go_wp2_with fail
          go_quiet (fail)
          obtain ⟨w1, hw1⟩ : ∃ x, x = w.drewN nq := ⟨_, rfl⟩
          have hb1 : Below w.heap.size w w1 := by rw [hw1]; exact below_drewN _ _ _
          have HB1 := Lib.hid hb1
          have c0 := cell_below HC.out.1 hb1
          have c1 := cell_below HC.out.2 hb1
          rw [← hw1]
          clear hw1 hb1
          go_wp2_with fail
          go_ret
          rw [HS.out]
          refine ⟨_, rfl, HB1.out.size, ?_, HB1.out.alloc HB1.out.size _⟩
          exact row_fresh _ _ _
        · by_cases h2 : least ≤ min (T + dt) 6311433599
          · have HS := Lib.hid (show stepsS L least true true dt P T = (P + 1, 0) by unfold stepsS; rw [if_neg (fun h => by cases h), if_neg hp0, if_pos ⟨h1, rfl, h2⟩])
            obtain ⟨S, hS⟩ : ∃ x, x = stepsS L least true true dt P T := ⟨_, rfl⟩
            rw [← hS] at HS ⊢
            clear hS
            have e0 : (P == 0) = false := by rw [beq_eq_false_iff_ne]; exact hp0
            have HP0 := Lib.hid hp0
            clear hp0
            go_enter Tryd.func32, Tryd.ntmps32
            go_wp2_with fail
            go_quiet (fail)
            obtain ⟨w1, hw1⟩ : ∃ x, x = w.drewN nq := ⟨_, rfl⟩
            have hb1 : Below w.heap.size w w1 := by rw [hw1]; exact below_drewN _ _ _
            have HB1 := Lib.hid hb1
            have c0 := cell_below HC.out.1 hb1
            have c1 := cell_below HC.out.2 hb1
            rw [← hw1]
            clear hw1 hb1
            go_wp2_with fail
            go_ret
            rw [HS.out]
            refine ⟨_, rfl, HB1.out.size, ?_, HB1.out.alloc HB1.out.size _⟩
            exact row_fresh _ _ _
          · have HS := Lib.hid (show stepsS L least true true dt P T = (P, min (T + dt) 6311433599) by unfold stepsS; rw [if_neg (fun h => by cases h), if_neg hp0, if_neg (fun h => h2 h.2.2)])
            obtain ⟨S, hS⟩ : ∃ x, x = stepsS L least true true dt P T := ⟨_, rfl⟩
            rw [← hS] at HS ⊢
            clear hS
            have e0 : (P == 0) = false := by rw [beq_eq_false_iff_ne]; exact hp0
            have HP0 := Lib.hid hp0
            clear hp0
            go_enter Tryd.func32, Tryd.ntmps32
            go_wp2_with fail
            go_quiet (fail)
            obtain ⟨w1, hw1⟩ : ∃ x, x = w.drewN nq := ⟨_, rfl⟩
            have hb1 : Below w.heap.size w w1 := by rw [hw1]; exact below_drewN _ _ _
            have HB1 := Lib.hid hb1
            have c0 := cell_below HC.out.1 hb1
            have c1 := cell_below HC.out.2 hb1
            rw [← hw1]
            clear hw1 hb1
            go_wp2_with fail
            go_ret
            rw [HS.out]
            refine ⟨_, rfl, HB1.out.size, ?_, HB1.out.alloc HB1.out.size _⟩
            exact row_fresh _ _ _
      · have hd1 : decide (P < L) = false := decide_eq_false h1
        cases nx
        · have HS := Lib.hid (show stepsS L least true false dt P T = (P, min (T + dt) 6311433599) by unfold stepsS; rw [if_neg (fun h => by cases h), if_neg hp0, if_neg (fun h => h1 h.1)])
          obtain ⟨S, hS⟩ : ∃ x, x = stepsS L least true false dt P T := ⟨_, rfl⟩
          rw [← hS] at HS ⊢
          clear hS
          have e0 : (P == 0) = false := by rw [beq_eq_false_iff_ne]; exact hp0
          have HP0 := Lib.hid hp0
          clear hp0
          go_enter Tryd.func32, Tryd.ntmps32
          go_wp2_with fail
          go_quiet (fail)
          obtain ⟨w1, hw1⟩ : ∃ x, x = w.drewN nq := ⟨_, rfl⟩
          have hb1 : Below w.heap.size w w1 := by rw [hw1]; exact below_drewN _ _ _
          have HB1 := Lib.hid hb1
          have c0 := cell_below HC.out.1 hb1
          have c1 := cell_below HC.out.2 hb1
          rw [← hw1]
          clear hw1 hb1
          go_wp2_with fail
          go_ret
          rw [HS.out]
          refine ⟨_, rfl, HB1.out.size, ?_, HB1.out.alloc HB1.out.size _⟩
          exact row_fresh _ _ _
        · have HS := Lib.hid (show stepsS L least true true dt P T = (P, min (T + dt) 6311433599) by unfold stepsS; rw [if_neg (fun h => by cases h), if_neg hp0, if_neg (fun h => h1 h.1)])
          obtain ⟨S, hS⟩ : ∃ x, x = stepsS L least true true dt P T := ⟨_, rfl⟩
          rw [← hS] at HS ⊢
          clear hS
          have e0 : (P == 0) = false := by rw [beq_eq_false_iff_ne]; exact hp0
          have HP0 := Lib.hid hp0
          clear hp0
          go_enter Tryd.func32, Tryd.ntmps32
          go_wp2_with fail
          go_quiet (fail)
          obtain ⟨w1, hw1⟩ : ∃ x, x = w.drewN nq := ⟨_, rfl⟩
          have hb1 : Below w.heap.size w w1 := by rw [hw1]; exact below_drewN _ _ _
          have HB1 := Lib.hid hb1
          have c0 := cell_below HC.out.1 hb1
          have c1 := cell_below HC.out.2 hb1
          rw [← hw1]
          clear hw1 hb1
          go_wp2_with fail
          go_ret
          rw [HS.out]
          refine ⟨_, rfl, HB1.out.size, ?_, HB1.out.alloc HB1.out.size _⟩
          exact row_fresh _ _ _
end Go.Proofs.YthaigchklogjlaaDoor
