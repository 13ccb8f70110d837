/- Contracts of the specification's Winner and step. -/
import Derived.Test.YtojbhbifbennfaaK
import Derived.Test.YtojbhbifbennfaaG
namespace Go.Proofs.Ytojbhbifbennfaa
open Go.RowKit Go.Shelf

theorem firstI_ge (p : RqD → Bool) (qs : List RqD) : ∀ i, -1 ≤ firstI p qs i := by
  induction qs with
  | nil => intro i; exact Int.le_refl _
  | cons x r ih =>
    intro i
    show -1 ≤ if p x = true then (i : Int) else firstI p r (i + 1)
    split
    · omega
    · exact ih _
theorem winI_ge (qs : List RqD) (on : Int) (h : -1 ≤ on) : -1 ≤ winI qs on := by
  have hs : ∀ lo hi, -1 ≤ searchI qs on lo hi := fun lo hi => by
    unfold searchI
    split
    · exact h
    · exact firstI_ge _ _ _
  unfold winI
  split
  · exact hs 1 1
  · split
    · exact hs 2 2
    · split
      · exact hs 3 17
      · split
        · exact h
        · exact Int.le_refl _

set_option maxHeartbeats 4000000 in
set_option maxRecDepth 100000 in
theorem rwinnerX_any (nm : Value) (pa : Option Addr) (P pc : Nat) (dd : Int) (on left : Int) (a : Option Addr) (cap : Nat) (qs : List RqD) (w : World) (hin : InS w a qs.length 3 (flat rqL qs)) : Calls Try.prog 18 #[.agg #[nm, .slice pa P pc, .int .i64 dd], .agg #[.int .i64 on, .int .i64 left], .slice a qs.length cap] w fun e w' => e = .returned (winV P dd on left qs) ∧ Below w.heap.size w w' := by
  obtain ⟨F, hF⟩ : ∃ F, F = decide (checkE P dd on left qs = 0) := ⟨_, rfl⟩
  have hck := fun (W' : World) (hb : Below w.heap.size w W') => formed_any nm pa P pc dd on left a cap qs W' (hin.keep hb)
  have hwi := fun (ho : checkE P dd on left qs = 0) (W' : World) (hb : Below w.heap.size w W') => rwinner_any on a cap qs (by have h := check_ok ho; rw [h.1]; exact h.2.2.1) (check_ok ho).2.1 W' (hin.keep hb)
  rw [← hF] at hck
  have HCK := Lib.hid hck
  have HF := Lib.hid hF
  obtain ⟨I, hI⟩ : ∃ I, I = winI qs on := ⟨_, rfl⟩
  rw [← hI] at hwi
  have HII := Lib.hid hI
  obtain ⟨N, hN⟩ : ∃ N, N = qs.length := ⟨_, rfl⟩
  rw [← hN] at HCK hwi ⊢
  have HWI := Lib.hid hwi
  obtain ⟨W, g, s, hW, hg, hs, R1, R2, B, sz⟩ := box2 w #[nm, .slice pa P pc, .int .i64 dd] 33 #[.int .i64 on, .int .i64 left] 38
  have HB0 := Lib.hid B
  have HG0 := Lib.hid R1
  have HS0 := Lib.hid R2
  clear hck hwi hF hI hN hin R1 R2 B sz
  go_enter Try.func18, Try.ntmps18
  go_upto_region 1 with fail
  rw [← hW]
  try rw [← hs]
  try rw [← hg]
  clear hW hg hs
  have g_0 := HG0.out.c 0 _ rfl
  have g_1 := HG0.out.c 1 _ rfl
  have g_2 := HG0.out.c 2 _ rfl
  have s_0 := HS0.out.c 0 _ rfl
  have s_1 := HS0.out.c 1 _ rfl
  go_wp2_with fail
  refine (HCK.out _ HB0.out).mono ?_
  rintro e w1 ⟨rfl, hb⟩
  clear g_0 g_1 g_2 s_0 s_1
  have HG1 := Lib.hid (HG0.out.keep hb)
  have HS1 := Lib.hid (HS0.out.keep hb)
  have HB1 := Lib.hid (HB0.out.trans (hb.mono HB0.out.size))
  clear hb HG0 HS0 HB0
  have g_0 := HG1.out.c 0 _ rfl
  have g_1 := HG1.out.c 1 _ rfl
  have g_2 := HG1.out.c 2 _ rfl
  have s_0 := HS1.out.c 0 _ rfl
  have s_1 := HS1.out.c 1 _ rfl
  cases F
  · have HV := Lib.hid (show winV P dd on left qs = .tuple #[.int .i64 0, .int .i64 1] from if_neg (of_decide_eq_false HF.out.symm))
    go_wp2_with fail
    go_ret2
    exact ⟨by rw [HV.out]; (first | done | rfl), HB1.out⟩
  · have HE0 := Lib.hid (of_decide_eq_true HF.out.symm)
    go_wp2_with fail
    refine (HWI.out HE0.out _ HB1.out).mono ?_
    rintro e w2 ⟨rfl, hb⟩
    have HB2 := Lib.hid (HB1.out.trans (hb.mono HB1.out.size))
    clear hb
    have HV := Lib.hid (show winV P dd on left qs = .tuple #[.int .i64 I, .int .i64 0] from (if_pos HE0.out).trans (by rw [← HII.out]))
    go_wp2_with fail
    go_ret2
    exact ⟨by rw [HV.out]; (first | done | rfl), HB2.out⟩

set_option maxHeartbeats 4000000 in
set_option maxRecDepth 100000 in
theorem rstep_any (nm : Value) (pa : Option Addr) (P pc : Nat) (dd : Int) (on left : Int) (a : Option Addr) (cap : Nat) (qs : List RqD) (now : Int) (hc : checkE P dd on left qs = 0) (hn0 : 0 ≤ now) (hn1 : now ≤ 6311433599) (hn2 : left ≤ now) (w : World) (hin : InS w a qs.length 3 (flat rqL qs)) : Calls Try.prog 55 #[.agg #[nm, .slice pa P pc, .int .i64 dd], .agg #[.int .i64 on, .int .i64 left], .slice a qs.length cap, .int .i64 now] w fun e w' => e = .returned (.agg #[.int .i64 (stepS on left dd now (winI qs on)).1, .int .i64 (stepS on left dd now (winI qs on)).2]) ∧ Below w.heap.size w w' := by
  have hwi := fun (W' : World) (hb : Below w.heap.size w W') => rwinner_any on a cap qs (by have h := check_ok hc; rw [h.1]; exact h.2.2.1) (check_ok hc).2.1 W' (hin.keep hb)
  have HNUM := Lib.hid (show (on = -1 ∨ 0 ≤ on) ∧ 0 ≤ left ∧ 0 ≤ dd ∧ dd ≤ 3600 from by have h := check_ok hc; exact ⟨by omega, h.2.2.2⟩)
  obtain ⟨I, hI⟩ : ∃ I, I = winI qs on := ⟨_, rfl⟩
  have hge := winI_ge qs on (by have h := HNUM.out; omega)
  rw [← hI] at hwi hge
  rw [← hI]
  obtain ⟨N, hN⟩ : ∃ N, N = qs.length := ⟨_, rfl⟩
  rw [← hN] at hwi ⊢
  have HWI := Lib.hid hwi
  have w3' : IntKind.i64.wrap (now - left) = now - left := IntWalk.i64_in _ (by have h := HNUM.out; exact ⟨by omega, by omega⟩)
  obtain ⟨W, g, s, r, hW, hg, hs, hr, R1, R2, R3, B, sz⟩ := box3 w #[nm, .slice pa P pc, .int .i64 dd] 33 #[.int .i64 on, .int .i64 left] 38 #[.int .i64 0, .int .i64 0] 38
  have HB0 := Lib.hid B
  have HG0 := Lib.hid R1
  have HS0 := Lib.hid R2
  have HR0 := Lib.hid R3
  have HWR := Lib.hid (show w.heap.size ≤ r by omega)
  clear hwi hI hN hin R1 R2 R3 B sz hc
  go_enter Try.func55, Try.ntmps55
  go_upto_region 1 with fail
  rw [← hW]
  try rw [← hr]
  try rw [← hs]
  try rw [← hg]
  clear hW hg hs hr
  have g_0 := HG0.out.c 0 _ rfl
  have g_1 := HG0.out.c 1 _ rfl
  have g_2 := HG0.out.c 2 _ rfl
  have s_0 := HS0.out.c 0 _ rfl
  have s_1 := HS0.out.c 1 _ rfl
  have r_0 := HR0.out.c 0 _ rfl
  have r_1 := HR0.out.c 1 _ rfl
  have r_z := HR0.out.fz
  go_wp2_with fail
  refine (HWI.out _ HB0.out).mono ?_
  rintro e w1 ⟨rfl, hb⟩
  clear g_0 g_1 g_2 s_0 s_1 r_0 r_1 r_z
  have HG1 := Lib.hid (HG0.out.keep hb)
  have HS1 := Lib.hid (HS0.out.keep hb)
  have HR1 := Lib.hid (HR0.out.keep hb)
  have HB1 := Lib.hid (HB0.out.trans (hb.mono HB0.out.size))
  clear hb HG0 HS0 HR0 HB0
  have g_0 := HG1.out.c 0 _ rfl
  have g_1 := HG1.out.c 1 _ rfl
  have g_2 := HG1.out.c 2 _ rfl
  have s_0 := HS1.out.c 0 _ rfl
  have s_1 := HS1.out.c 1 _ rfl
  have r_0 := HR1.out.c 0 _ rfl
  have r_1 := HR1.out.c 1 _ rfl
  have r_z := HR1.out.fz
  by_cases h1 : 0 ≤ on
  · by_cases h2 : on = I
    · have HV := Lib.hid (show stepS on left dd now I = (on, left) from by unfold stepS; rw [if_pos h2.symm])
      have h4 : ¬ on < 0 := by omega
      subst h2
      go_wp2_with fail
      have hs := (HR1.out).setRow [.int .i64 on, .int .i64 left] rfl
      have y0 : ((w1.setCell ⟨r, 0, none⟩ (.int .i64 on)).setCell ⟨r, 1, none⟩ (.int .i64 left)).cell? ⟨r, 0, none⟩ = some (.int .i64 on) := hs.c 0 _ rfl
      have y1 : ((w1.setCell ⟨r, 0, none⟩ (.int .i64 on)).setCell ⟨r, 1, none⟩ (.int .i64 left)).cell? ⟨r, 1, none⟩ = some (.int .i64 left) := hs.c 1 _ rfl
      (try simp only [Exit.inBlock, Exit.then])
      refine bodyPost_ret (by simp [results, Try.results55, go_sem, y0, y1]; try rfl) rfl ?_
      exact ⟨by rw [HV.out], set_below HB1.out HWR.out [.int .i64 on, .int .i64 left]⟩
    · have HV := Lib.hid (show stepS on left dd now I = ((-1), now) from by unfold stepS; rw [if_neg (fun h => h2 h.symm), if_pos (by omega)])
      have t2 : (on != I) = true := by simpa using h2
      clear h2
      go_wp2_with fail
      have hs := (HR1.out).setRow [.int .i64 (-1), .int .i64 now] rfl
      have y0 : ((w1.setCell ⟨r, 0, none⟩ (.int .i64 (-1))).setCell ⟨r, 1, none⟩ (.int .i64 now)).cell? ⟨r, 0, none⟩ = some (.int .i64 (-1)) := hs.c 0 _ rfl
      have y1 : ((w1.setCell ⟨r, 0, none⟩ (.int .i64 (-1))).setCell ⟨r, 1, none⟩ (.int .i64 now)).cell? ⟨r, 1, none⟩ = some (.int .i64 now) := hs.c 1 _ rfl
      (try simp only [Exit.inBlock, Exit.then])
      refine bodyPost_ret (by simp [results, Try.results55, go_sem, y0, y1]; try rfl) rfl ?_
      exact ⟨by rw [HV.out], set_below HB1.out HWR.out [.int .i64 (-1), .int .i64 now]⟩
  · have h4 : on < 0 := by omega
    have hon : on = -1 := by have h := HNUM.out.1; omega
    by_cases h2 : 0 ≤ I
    · by_cases h3 : dd ≤ now - left
      · have HV := Lib.hid (show stepS on left dd now I = (I, left) from by unfold stepS; rw [if_neg (by omega), if_neg (by omega), if_pos h3])
        clear hon
        go_wp2_with fail
        have hs := (HR1.out).setRow [.int .i64 I, .int .i64 left] rfl
        have y0 : ((w1.setCell ⟨r, 0, none⟩ (.int .i64 I)).setCell ⟨r, 1, none⟩ (.int .i64 left)).cell? ⟨r, 0, none⟩ = some (.int .i64 I) := hs.c 0 _ rfl
        have y1 : ((w1.setCell ⟨r, 0, none⟩ (.int .i64 I)).setCell ⟨r, 1, none⟩ (.int .i64 left)).cell? ⟨r, 1, none⟩ = some (.int .i64 left) := hs.c 1 _ rfl
        (try simp only [Exit.inBlock, Exit.then])
        refine bodyPost_ret (by simp [results, Try.results55, go_sem, y0, y1]; try rfl) rfl ?_
        exact ⟨by rw [HV.out], set_below HB1.out HWR.out [.int .i64 I, .int .i64 left]⟩
      · have HV := Lib.hid (show stepS on left dd now I = (on, left) from by unfold stepS; rw [if_neg (by omega), if_neg (by omega), if_neg h3])
        clear hon
        go_wp2_with fail
        have hs := (HR1.out).setRow [.int .i64 on, .int .i64 left] rfl
        have y0 : ((w1.setCell ⟨r, 0, none⟩ (.int .i64 on)).setCell ⟨r, 1, none⟩ (.int .i64 left)).cell? ⟨r, 0, none⟩ = some (.int .i64 on) := hs.c 0 _ rfl
        have y1 : ((w1.setCell ⟨r, 0, none⟩ (.int .i64 on)).setCell ⟨r, 1, none⟩ (.int .i64 left)).cell? ⟨r, 1, none⟩ = some (.int .i64 left) := hs.c 1 _ rfl
        (try simp only [Exit.inBlock, Exit.then])
        refine bodyPost_ret (by simp [results, Try.results55, go_sem, y0, y1]; try rfl) rfl ?_
        exact ⟨by rw [HV.out], set_below HB1.out HWR.out [.int .i64 on, .int .i64 left]⟩
    · have HV := Lib.hid (show stepS on left dd now I = (on, left) from by unfold stepS; rw [if_pos (by omega)])
      clear hon
      go_wp2_with fail
      have hs := (HR1.out).setRow [.int .i64 on, .int .i64 left] rfl
      have y0 : ((w1.setCell ⟨r, 0, none⟩ (.int .i64 on)).setCell ⟨r, 1, none⟩ (.int .i64 left)).cell? ⟨r, 0, none⟩ = some (.int .i64 on) := hs.c 0 _ rfl
      have y1 : ((w1.setCell ⟨r, 0, none⟩ (.int .i64 on)).setCell ⟨r, 1, none⟩ (.int .i64 left)).cell? ⟨r, 1, none⟩ = some (.int .i64 left) := hs.c 1 _ rfl
      (try simp only [Exit.inBlock, Exit.then])
      refine bodyPost_ret (by simp [results, Try.results55, go_sem, y0, y1]; try rfl) rfl ?_
      exact ⟨by rw [HV.out], set_below HB1.out HWR.out [.int .i64 on, .int .i64 left]⟩
end Go.Proofs.Ytojbhbifbennfaa
