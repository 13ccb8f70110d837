/- Contracts of the specification's Step and Waiting. -/
import Derived.Test.YtojbhbifbennfaaL
import Derived.Test.YtojbhbifbennfaaH
namespace Go.Proofs.Ytojbhbifbennfaa
open Go.RowKit Go.Shelf

theorem at_one {P : Nat} {dd on left now : Int} {qs : List RqD} (h : ¬ checkE P dd on left qs = 0) : checkAtE P dd on left qs now = 1 := by
  have h1 := (check_is P dd on left qs).resolve_left h
  exact (if_pos h).trans h1
theorem at_six {P : Nat} {dd on left now : Int} {qs : List RqD} (h : checkE P dd on left qs = 0) (h2 : now < 0 ∨ 6311433599 < now ∨ now < left) : checkAtE P dd on left qs now = 6 := (if_neg (fun g => g h)).trans (if_pos h2)
theorem at_zero {P : Nat} {dd on left now : Int} {qs : List RqD} (h : checkE P dd on left qs = 0) (h2 : ¬ (now < 0 ∨ 6311433599 < now ∨ now < left)) : checkAtE P dd on left qs now = 0 := (if_neg (fun g => g h)).trans (if_neg h2)

set_option maxHeartbeats 8000000 in
set_option maxRecDepth 100000 in
theorem rstepX_any (nm : Value) (pa : Option Addr) (P pc : Nat) (dd : Int) (on left : Int) (a : Option Addr) (cap : Nat) (qs : List RqD) (now : Int) (w : World) (hin : InS w a qs.length 3 (flat rqL qs)) : Calls Try.prog 20 #[.agg #[nm, .slice pa P pc, .int .i64 dd], .agg #[.int .i64 on, .int .i64 left], .slice a qs.length cap, .int .i64 now] w fun e w' => e = .returned (stepV P dd on left qs now) ∧ Below w.heap.size w w' := by
  obtain ⟨F, hF⟩ : ∃ F, F = decide (checkE P dd on left qs = 0) := ⟨_, rfl⟩
  have hck := fun (W' : World) (hb : Below w.heap.size w W') => formed_any nm pa P pc dd on left a cap qs W' (hin.keep hb)
  have hst := fun hc h0 h1 h2 (W' : World) (hb : Below w.heap.size w W') => rstep_any nm pa P pc dd on left a cap qs now hc h0 h1 h2 W' (hin.keep hb)
  rw [← hF] at hck
  have HCK := Lib.hid hck
  have HF := Lib.hid hF
  obtain ⟨X, hX⟩ : ∃ X, X = (stepS on left dd now (winI qs on)).1 := ⟨_, rfl⟩
  obtain ⟨Y, hY⟩ : ∃ Y, Y = (stepS on left dd now (winI qs on)).2 := ⟨_, rfl⟩
  rw [← hX, ← hY] at hst
  have HXX := Lib.hid hX
  have HYY := Lib.hid hY
  obtain ⟨N, hN⟩ : ∃ N, N = qs.length := ⟨_, rfl⟩
  rw [← hN] at HCK hst ⊢
  have HST := Lib.hid hst
  obtain ⟨W, g, s, r, hW, hg, hs, hr, R1, R2, R3, B, sz⟩ := box3 w #[nm, .slice pa P pc, .int .i64 dd] 33 #[.int .i64 on, .int .i64 left] 38 #[.int .i64 0, .int .i64 0] 38
  have HB0 := Lib.hid B
  have HG0 := Lib.hid R1
  have HS0 := Lib.hid R2
  have HR0 := Lib.hid R3
  have HWR := Lib.hid (show w.heap.size ≤ r by omega)
  clear hck hst hF hX hY hN hin R1 R2 R3 B sz
  go_enter Try.func20, Try.ntmps20
  go_upto_region 1 with fail
  rw [← hW]
  try rw [← hr]
  try rw [← hs]
  try rw [← hg]
  clear hW hg hs hr
  have g_0 := HG0.out.c 0 _ rfl
  have g_1 := HG0.out.c 1 _ rfl
  have g_2 := HG0.out.c 2 _ rfl
  have s_0 := HS0.out.c 0 _ rfl
  have s_1 := HS0.out.c 1 _ rfl
  have r_0 := HR0.out.c 0 _ rfl
  have r_1 := HR0.out.c 1 _ rfl
  have r_z := HR0.out.fz
  go_wp2_with fail
  refine (HCK.out _ HB0.out).mono ?_
  rintro e w1 ⟨rfl, hb⟩
  clear g_0 g_1 g_2 s_0 s_1 r_0 r_1 r_z
  have HG1 := Lib.hid (HG0.out.keep hb)
  have HS1 := Lib.hid (HS0.out.keep hb)
  have HR1 := Lib.hid (HR0.out.keep hb)
  have HB1 := Lib.hid (HB0.out.trans (hb.mono HB0.out.size))
  clear hb HG0 HS0 HR0 HB0
  have g_0 := HG1.out.c 0 _ rfl
  have g_1 := HG1.out.c 1 _ rfl
  have g_2 := HG1.out.c 2 _ rfl
  have s_0 := HS1.out.c 0 _ rfl
  have s_1 := HS1.out.c 1 _ rfl
  have r_0 := HR1.out.c 0 _ rfl
  have r_1 := HR1.out.c 1 _ rfl
  have r_z := HR1.out.fz
  cases F
  · have HV := Lib.hid (show stepV P dd on left qs now = .tuple #[.agg #[.int .i64 0, .int .i64 0], .int .i64 1] from by have h := at_one (now := now) (of_decide_eq_false HF.out.symm); unfold stepV; rw [if_neg (by rw [h]; decide), h])
    go_wp2_with fail
    have hs := (HR1.out).setRow [.int .i64 0, .int .i64 0] rfl
    have y0 : ((w1.setCell ⟨r, 0, none⟩ (.int .i64 0)).setCell ⟨r, 1, none⟩ (.int .i64 0)).cell? ⟨r, 0, none⟩ = some (.int .i64 0) := hs.c 0 _ rfl
    have y1 : ((w1.setCell ⟨r, 0, none⟩ (.int .i64 0)).setCell ⟨r, 1, none⟩ (.int .i64 0)).cell? ⟨r, 1, none⟩ = some (.int .i64 0) := hs.c 1 _ rfl
    (try simp only [Exit.inBlock, Exit.then])
    refine bodyPost_ret (by simp [results, Try.results20, go_sem, y0, y1]; try rfl) rfl ?_
    exact ⟨by rw [HV.out], set_below HB1.out HWR.out [.int .i64 0, .int .i64 0]⟩
  · have HE0 := Lib.hid (of_decide_eq_true HF.out.symm)
    by_cases h1 : now < 0
    · have HV := Lib.hid (show stepV P dd on left qs now = .tuple #[.agg #[.int .i64 0, .int .i64 0], .int .i64 6] from by have h := at_six HE0.out (.inl h1); unfold stepV; rw [if_neg (by rw [h]; decide), h])
      go_wp2_with fail
      have hs := (HR1.out).setRow [.int .i64 0, .int .i64 0] rfl
      have y0 : ((w1.setCell ⟨r, 0, none⟩ (.int .i64 0)).setCell ⟨r, 1, none⟩ (.int .i64 0)).cell? ⟨r, 0, none⟩ = some (.int .i64 0) := hs.c 0 _ rfl
      have y1 : ((w1.setCell ⟨r, 0, none⟩ (.int .i64 0)).setCell ⟨r, 1, none⟩ (.int .i64 0)).cell? ⟨r, 1, none⟩ = some (.int .i64 0) := hs.c 1 _ rfl
      (try simp only [Exit.inBlock, Exit.then])
      refine bodyPost_ret (by simp [results, Try.results20, go_sem, y0, y1]; try rfl) rfl ?_
      exact ⟨by rw [HV.out], set_below HB1.out HWR.out [.int .i64 0, .int .i64 0]⟩
    · by_cases h2 : 6311433599 < now
      · have HV := Lib.hid (show stepV P dd on left qs now = .tuple #[.agg #[.int .i64 0, .int .i64 0], .int .i64 6] from by have h := at_six HE0.out (.inr (.inl h2)); unfold stepV; rw [if_neg (by rw [h]; decide), h])
        go_wp2_with fail
        have hs := (HR1.out).setRow [.int .i64 0, .int .i64 0] rfl
        have y0 : ((w1.setCell ⟨r, 0, none⟩ (.int .i64 0)).setCell ⟨r, 1, none⟩ (.int .i64 0)).cell? ⟨r, 0, none⟩ = some (.int .i64 0) := hs.c 0 _ rfl
        have y1 : ((w1.setCell ⟨r, 0, none⟩ (.int .i64 0)).setCell ⟨r, 1, none⟩ (.int .i64 0)).cell? ⟨r, 1, none⟩ = some (.int .i64 0) := hs.c 1 _ rfl
        (try simp only [Exit.inBlock, Exit.then])
        refine bodyPost_ret (by simp [results, Try.results20, go_sem, y0, y1]; try rfl) rfl ?_
        exact ⟨by rw [HV.out], set_below HB1.out HWR.out [.int .i64 0, .int .i64 0]⟩
      · by_cases h3 : now < left
        · have HV := Lib.hid (show stepV P dd on left qs now = .tuple #[.agg #[.int .i64 0, .int .i64 0], .int .i64 6] from by have h := at_six HE0.out (.inr (.inr h3)); unfold stepV; rw [if_neg (by rw [h]; decide), h])
          go_wp2_with fail
          have hs := (HR1.out).setRow [.int .i64 0, .int .i64 0] rfl
          have y0 : ((w1.setCell ⟨r, 0, none⟩ (.int .i64 0)).setCell ⟨r, 1, none⟩ (.int .i64 0)).cell? ⟨r, 0, none⟩ = some (.int .i64 0) := hs.c 0 _ rfl
          have y1 : ((w1.setCell ⟨r, 0, none⟩ (.int .i64 0)).setCell ⟨r, 1, none⟩ (.int .i64 0)).cell? ⟨r, 1, none⟩ = some (.int .i64 0) := hs.c 1 _ rfl
          (try simp only [Exit.inBlock, Exit.then])
          refine bodyPost_ret (by simp [results, Try.results20, go_sem, y0, y1]; try rfl) rfl ?_
          exact ⟨by rw [HV.out], set_below HB1.out HWR.out [.int .i64 0, .int .i64 0]⟩
        · have HA0 := Lib.hid (at_zero HE0.out (show ¬ (now < 0 ∨ 6311433599 < now ∨ now < left) by rintro (h | h | h) <;> omega))
          have hst := HST.out HE0.out (by omega) (by omega) (by omega)
          have HSS := Lib.hid hst
          clear hst
          go_wp2_with fail
          refine (HSS.out _ HB1.out).mono ?_
          rintro e w2 ⟨rfl, hb⟩
          clear g_0 g_1 g_2 s_0 s_1 r_0 r_1 r_z
          have HG2 := Lib.hid (HG1.out.keep hb)
          have HS2 := Lib.hid (HS1.out.keep hb)
          have HR2 := Lib.hid (HR1.out.keep hb)
          have HB2 := Lib.hid (HB1.out.trans (hb.mono HB1.out.size))
          clear hb HG1 HS1 HR1 HB1
          have g_0 := HG2.out.c 0 _ rfl
          have g_1 := HG2.out.c 1 _ rfl
          have g_2 := HG2.out.c 2 _ rfl
          have s_0 := HS2.out.c 0 _ rfl
          have s_1 := HS2.out.c 1 _ rfl
          have r_0 := HR2.out.c 0 _ rfl
          have r_1 := HR2.out.c 1 _ rfl
          have r_z := HR2.out.fz
          have HV := Lib.hid (show stepV P dd on left qs now = .tuple #[.agg #[.int .i64 X, .int .i64 Y], .int .i64 0] from (if_pos HA0.out).trans (by rw [← HXX.out, ← HYY.out]))
          go_wp2_with fail
          have hs := (HR2.out).setRow [.int .i64 X, .int .i64 Y] rfl
          have y0 : ((w2.setCell ⟨r, 0, none⟩ (.int .i64 X)).setCell ⟨r, 1, none⟩ (.int .i64 Y)).cell? ⟨r, 0, none⟩ = some (.int .i64 X) := hs.c 0 _ rfl
          have y1 : ((w2.setCell ⟨r, 0, none⟩ (.int .i64 X)).setCell ⟨r, 1, none⟩ (.int .i64 Y)).cell? ⟨r, 1, none⟩ = some (.int .i64 Y) := hs.c 1 _ rfl
          (try simp only [Exit.inBlock, Exit.then])
          refine bodyPost_ret (by simp [results, Try.results20, go_sem, y0, y1]; try rfl) rfl ?_
          exact ⟨by rw [HV.out], set_below HB2.out HWR.out [.int .i64 X, .int .i64 Y]⟩

set_option maxHeartbeats 8000000 in
set_option maxRecDepth 100000 in
theorem rwaitX_any (nm : Value) (pa : Option Addr) (P pc : Nat) (dd : Int) (on left : Int) (a : Option Addr) (cap : Nat) (qs : List RqD) (now : Int) (w : World) (hin : InS w a qs.length 3 (flat rqL qs)) : Calls Try.prog 22 #[.agg #[nm, .slice pa P pc, .int .i64 dd], .agg #[.int .i64 on, .int .i64 left], .slice a qs.length cap, .int .i64 now] w fun e w' => e = .returned (waitV P dd on left qs now) ∧ Below w.heap.size w w' := by
  obtain ⟨F, hF⟩ : ∃ F, F = decide (checkE P dd on left qs = 0) := ⟨_, rfl⟩
  have hck := fun (W' : World) (hb : Below w.heap.size w W') => formed_any nm pa P pc dd on left a cap qs W' (hin.keep hb)
  have hwi := fun (ho : checkE P dd on left qs = 0) (W' : World) (hb : Below w.heap.size w W') => rwinner_any on a cap qs (by have h := check_ok ho; rw [h.1]; exact h.2.2.1) (check_ok ho).2.1 W' (hin.keep hb)
  rw [← hF] at hck
  have HCK := Lib.hid hck
  have HF := Lib.hid hF
  obtain ⟨I, hI⟩ : ∃ I, I = winI qs on := ⟨_, rfl⟩
  have HGE := Lib.hid (fun h => winI_ge qs on h)
  rw [← hI] at hwi HGE
  have HII := Lib.hid hI
  obtain ⟨N, hN⟩ : ∃ N, N = qs.length := ⟨_, rfl⟩
  rw [← hN] at HCK hwi ⊢
  have HWI := Lib.hid hwi
  obtain ⟨W, g, s, hW, hg, hs, R1, R2, B, sz⟩ := box2 w #[nm, .slice pa P pc, .int .i64 dd] 33 #[.int .i64 on, .int .i64 left] 38
  have HB0 := Lib.hid B
  have HG0 := Lib.hid R1
  have HS0 := Lib.hid R2
  clear hck hwi hF hI hN hin R1 R2 B sz
  go_enter Try.func22, Try.ntmps22
  go_upto_region 1 with fail
  rw [← hW]
  try rw [← hs]
  try rw [← hg]
  clear hW hg hs
  have g_0 := HG0.out.c 0 _ rfl
  have g_1 := HG0.out.c 1 _ rfl
  have g_2 := HG0.out.c 2 _ rfl
  have s_0 := HS0.out.c 0 _ rfl
  have s_1 := HS0.out.c 1 _ rfl
  go_wp2_with fail
  refine (HCK.out _ HB0.out).mono ?_
  rintro e w1 ⟨rfl, hb⟩
  clear g_0 g_1 g_2 s_0 s_1
  have HG1 := Lib.hid (HG0.out.keep hb)
  have HS1 := Lib.hid (HS0.out.keep hb)
  have HB1 := Lib.hid (HB0.out.trans (hb.mono HB0.out.size))
  clear hb HG0 HS0 HB0
  have g_0 := HG1.out.c 0 _ rfl
  have g_1 := HG1.out.c 1 _ rfl
  have g_2 := HG1.out.c 2 _ rfl
  have s_0 := HS1.out.c 0 _ rfl
  have s_1 := HS1.out.c 1 _ rfl
  cases F
  · have HV := Lib.hid (show waitV P dd on left qs now = .tuple #[.int .i64 0, .int .i64 0, .int .i64 1] from by have h := at_one (now := now) (of_decide_eq_false HF.out.symm); unfold waitV; rw [if_neg (by rw [h]; decide), h])
    go_wp2_with fail
    go_ret3
    exact ⟨by rw [HV.out]; (first | done | rfl), HB1.out⟩
  · have HE0 := Lib.hid (of_decide_eq_true HF.out.symm)
    by_cases h1 : now < 0
    · have HV := Lib.hid (show waitV P dd on left qs now = .tuple #[.int .i64 0, .int .i64 0, .int .i64 6] from by have h := at_six HE0.out (.inl h1); unfold waitV; rw [if_neg (by rw [h]; decide), h])
      go_wp2_with fail
      go_ret3
      exact ⟨by rw [HV.out]; (first | done | rfl), HB1.out⟩
    · by_cases h2 : 6311433599 < now
      · have HV := Lib.hid (show waitV P dd on left qs now = .tuple #[.int .i64 0, .int .i64 0, .int .i64 6] from by have h := at_six HE0.out (.inr (.inl h2)); unfold waitV; rw [if_neg (by rw [h]; decide), h])
        go_wp2_with fail
        go_ret3
        exact ⟨by rw [HV.out]; (first | done | rfl), HB1.out⟩
      · by_cases h3 : now < left
        · have HV := Lib.hid (show waitV P dd on left qs now = .tuple #[.int .i64 0, .int .i64 0, .int .i64 6] from by have h := at_six HE0.out (.inr (.inr h3)); unfold waitV; rw [if_neg (by rw [h]; decide), h])
          go_wp2_with fail
          go_ret3
          exact ⟨by rw [HV.out]; (first | done | rfl), HB1.out⟩
        · have HA0 := Lib.hid (at_zero HE0.out (show ¬ (now < 0 ∨ 6311433599 < now ∨ now < left) by rintro (h | h | h) <;> omega))
          have HOK := Lib.hid (check_ok HE0.out)
          have HRNG := Lib.hid (show 0 ≤ now ∧ now ≤ 6311433599 ∧ left ≤ now from ⟨by omega, by omega, by omega⟩)
          go_wp2_with fail
          refine (HWI.out HE0.out _ HB1.out).mono ?_
          rintro e w2 ⟨rfl, hb⟩
          clear h1 h2 h3
          clear g_0 g_1 g_2 s_0 s_1
          have HG2 := Lib.hid (HG1.out.keep hb)
          have HS2 := Lib.hid (HS1.out.keep hb)
          have HB2 := Lib.hid (HB1.out.trans (hb.mono HB1.out.size))
          clear hb HG1 HS1 HB1
          have g_0 := HG2.out.c 0 _ rfl
          have g_1 := HG2.out.c 1 _ rfl
          have g_2 := HG2.out.c 2 _ rfl
          have s_0 := HS2.out.c 0 _ rfl
          have s_1 := HS2.out.c 1 _ rfl
          have hge : -1 ≤ I := HGE.out (by have h := HOK.out.2.2.1; omega)
          by_cases h1 : I < 0
          · have HV := Lib.hid (show waitV P dd on left qs now = .tuple #[.int .i64 0, .int .i64 0, .int .i64 9] from (if_pos HA0.out).trans (by rw [← HII.out]; rw [if_pos (.inl (show I = -1 by omega))]))
            go_wp2_with fail
            go_ret3
            exact ⟨by rw [HV.out]; (first | done | rfl), HB2.out⟩
          · by_cases h2 : I = on
            · have HV := Lib.hid (show waitV P dd on left qs now = .tuple #[.int .i64 0, .int .i64 0, .int .i64 9] from (if_pos HA0.out).trans (by rw [← HII.out]; rw [if_pos (.inr h2)]))
              have h2x := h2.symm
              clear h2
              subst h2x
              go_wp2_with fail
              go_ret3
              exact ⟨by rw [HV.out]; (first | done | rfl), HB2.out⟩
            · by_cases h3 : 0 ≤ on
              · have HV := Lib.hid (show waitV P dd on left qs now = .tuple #[.int .i64 I, .int .i64 (now + max dd 1), .int .i64 0] from (if_pos HA0.out).trans (by rw [← HII.out]; rw [if_neg (by rintro (h | h) <;> omega), if_pos (by omega)]))
                have t2 : (I == on) = false := by rw [beq_eq_false_iff_ne]; exact h2
                obtain ⟨MX, hMX⟩ : ∃ M, max 1 dd = M := ⟨_, rfl⟩
                obtain ⟨Y, hY⟩ : ∃ Y, now + MX = Y := ⟨_, rfl⟩
                have w3' : IntKind.i64.wrap (now + MX) = Y := by rw [← hY]; exact IntWalk.i64_in _ (by have h := HRNG.out; have h' := HOK.out; exact ⟨by omega, by omega⟩)
                have w4' : IntKind.i64.wrap Y = Y := by rw [← hY]; exact IntWalk.i64_in _ (by have h := HRNG.out; have h' := HOK.out; exact ⟨by omega, by omega⟩)
                rw [show max dd 1 = MX by omega, hY] at HV
                clear h2
                have HKD := Lib.hid (show w2.drew.cell? ⟨g, 2, none⟩ = some (.int .i64 dd) ∧ w2.drew.cell? ⟨s, 1, none⟩ = some (.int .i64 left) ∧ Below w.heap.size w w2.drew from ⟨HG2.out.drew.c 2 _ rfl, HS2.out.drew.c 1 _ rfl, HB2.out.drew⟩)
                go_upto_region 9 with fail
                go_region_held3 (fun w' => w'.cell? ⟨g, 2, none⟩ = some (.int .i64 dd) ∧ w'.cell? ⟨s, 1, none⟩ = some (.int .i64 left) ∧ Below w.heap.size w w')
                  (first | (with_reducible exact ⟨g_2, s_1, HB2.out⟩) | (with_reducible exact HKD.out) | go_keep) ((fail))
                all_goals
                  rename_i hHeld
                  have hB := hHeld.2.2
                  clear hHeld
                  go_wp2_with fail
                  go_ret3
                  exact ⟨by rw [HV.out]; (first | done | rfl), by first | exact hB | exact hB.drew | exact HB2.out⟩
              · have HV := Lib.hid (show waitV P dd on left qs now = .tuple #[.int .i64 I, .int .i64 (max now (left + dd)), .int .i64 0] from (if_pos HA0.out).trans (by rw [← HII.out]; rw [if_neg (by rintro (h | h) <;> omega), if_neg (by have h := HOK.out.2.2.1; omega)]))
                have t2 : (I == on) = false := by rw [beq_eq_false_iff_ne]; exact h2
                obtain ⟨Y, hY⟩ : ∃ Y, left + dd = Y := ⟨_, rfl⟩
                have w3' : IntKind.i64.wrap (left + dd) = Y := by rw [← hY]; exact IntWalk.i64_in _ (by have h := HRNG.out; have h' := HOK.out; exact ⟨by omega, by omega⟩)
                have w4' : IntKind.i64.wrap Y = Y := by rw [← hY]; exact IntWalk.i64_in _ (by have h := HRNG.out; have h' := HOK.out; exact ⟨by omega, by omega⟩)
                rw [hY] at HV
                obtain ⟨MX, hMX⟩ : ∃ M, max now Y = M := ⟨_, rfl⟩
                rw [hMX] at HV
                clear h2
                have HKD := Lib.hid (show w2.drew.cell? ⟨g, 2, none⟩ = some (.int .i64 dd) ∧ w2.drew.cell? ⟨s, 1, none⟩ = some (.int .i64 left) ∧ Below w.heap.size w w2.drew from ⟨HG2.out.drew.c 2 _ rfl, HS2.out.drew.c 1 _ rfl, HB2.out.drew⟩)
                go_upto_region 10 with fail
                go_region_held3 (fun w' => w'.cell? ⟨g, 2, none⟩ = some (.int .i64 dd) ∧ w'.cell? ⟨s, 1, none⟩ = some (.int .i64 left) ∧ Below w.heap.size w w')
                  (first | (with_reducible exact ⟨g_2, s_1, HB2.out⟩) | (with_reducible exact HKD.out) | go_keep) ((fail))
                all_goals
                  rename_i hHeld
                  have hB := hHeld.2.2
                  clear hHeld
                  go_wp2_with fail
                  go_ret3
                  exact ⟨by rw [HV.out]; (first | done | rfl), by first | exact hB | exact hB.drew | exact HB2.out⟩
end Go.Proofs.Ytojbhbifbennfaa
