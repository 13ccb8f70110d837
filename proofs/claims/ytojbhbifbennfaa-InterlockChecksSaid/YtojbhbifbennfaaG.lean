/- Contract of Step. -/
import Derived.Test.YtojbhbifbennfaaF
namespace Go.Proofs.Ytojbhbifbennfaa
open Go.RowKit Go.Shelf

theorem checkAt_ok {P : Nat} {dd on left now : Int} {qs : List RqD} (h : checkAtE P dd on left qs now = 0) : checkE P dd on left qs = 0 ∧ 0 ≤ now ∧ now ≤ 6311433599 ∧ left ≤ now := by
  unfold checkAtE at h
  split at h
  · rename_i h1; exact absurd h h1
  · rename_i h1
    split at h
    · cases h
    · rename_i h2
      exact ⟨by omega, by omega, by omega, by omega⟩
theorem row_cell {w : World} {b : Nat} {v0 : Value} {L : List Value} (t : RowAt w b (v0 :: L)) (v : Value) : RowAt (w.setCell ⟨b, 0, none⟩ v) b (v :: L) := by
  have h1 := t.set [v] (by simp)
  have h2 := t.other (show b + 1 ≠ b by omega) []
  refine ⟨fun i u hu => ?_, fun o => ?_, ?_⟩
  · cases i with
    | zero =>
      have : u = v := by simpa using hu.symm
      subst this
      exact h1 0 u rfl
    | succ i =>
      have hu' : (v0 :: L)[i + 1]? = some u := hu
      exact (World.cell?_setCell_other _ _ _ _ (by simp)).trans (t.c (i + 1) u hu')
  · show (w.setCells b 0 [v]).frozen? ⟨b, o, none⟩ = false
    rw [World.frozen?_setCells]; exact t.fz o
  · have := sz_setCells b [v] 0 w
    show b < (w.setCells b 0 [v]).heap.size
    rw [this]; exact t.lt

set_option maxHeartbeats 8000000 in
set_option maxRecDepth 100000 in
theorem stepX_any (nm : Value) (pa : Option Addr) (P pc : Nat) (dd : Int) (on left : Int) (a : Option Addr) (cap : Nat) (qs : List RqD) (now : Int) (w : World) (hin : InS w a qs.length 3 (flat rqL qs)) : Calls Try.prog 19 #[.agg #[nm, .slice pa P pc, .int .i64 dd], .agg #[.int .i64 on, .int .i64 left], .slice a qs.length cap, .int .i64 now] w fun e w' => e = .returned (stepV P dd on left qs now) ∧ Below w.heap.size w w' := by
  obtain ⟨E, hE⟩ : ∃ E, E = checkAtE P dd on left qs now := ⟨_, rfl⟩
  have hck := fun (W' : World) (hb : Below w.heap.size w W') => checkAt_any nm pa P pc dd on left a cap qs now W' (hin.keep hb)
  have hwi := fun (ho : checkE P dd on left qs = 0) (W' : World) (hb : Below w.heap.size w W') => winner_any on left a cap qs (by have h := check_ok ho; rw [h.1]; exact h.2.2.1) W' (hin.keep hb)
  rw [← hE] at hck
  have HCK := Lib.hid hck
  have HE := Lib.hid hE
  obtain ⟨I, hI⟩ : ∃ I, I = winI qs on := ⟨_, rfl⟩
  rw [← hI] at hwi
  have HII := Lib.hid hI
  obtain ⟨N, hN⟩ : ∃ N, N = qs.length := ⟨_, rfl⟩
  rw [← hN] at HCK hwi ⊢
  have HWI := Lib.hid hwi
  obtain ⟨W, g, s, r, hW, hg, hs, hr, R1, R2, R3, B, sz⟩ := box3 w #[nm, .slice pa P pc, .int .i64 dd] 33 #[.int .i64 on, .int .i64 left] 37 #[.int .i64 0, .int .i64 0] 37
  have HB0 := Lib.hid B
  have HG0 := Lib.hid R1
  have HS0 := Lib.hid R2
  have HR0 := Lib.hid R3
  have HWR := Lib.hid (show w.heap.size ≤ r by omega)
  have HWS := Lib.hid (show w.heap.size ≤ s by omega)
  have hsr : s ≠ r := by omega
  clear hck hwi hE hI hN hin R1 R2 R3 B sz
  go_enter Try.func19, Try.ntmps19
  go_upto_region 1 with fail
  rw [← hW]
  try rw [← hr]
  try rw [← hs]
  try rw [← hg]
  clear hW hg hs hr
  have g_0 := HG0.out.c 0 _ rfl
  have g_1 := HG0.out.c 1 _ rfl
  have g_2 := HG0.out.c 2 _ rfl
  have s_0 := HS0.out.c 0 _ rfl
  have s_1 := HS0.out.c 1 _ rfl
  have s_z := HS0.out.fz
  have r_0 := HR0.out.c 0 _ rfl
  have r_1 := HR0.out.c 1 _ rfl
  have r_z := HR0.out.fz
  go_wp2_with fail
  refine (HCK.out _ HB0.out).mono ?_
  rintro e w1 ⟨rfl, hb⟩
  clear g_0 g_1 g_2 s_0 s_1 s_z r_0 r_1 r_z
  have HG1 := Lib.hid (HG0.out.keep hb)
  have HS1 := Lib.hid (HS0.out.keep hb)
  have HR1 := Lib.hid (HR0.out.keep hb)
  have HB1 := Lib.hid (HB0.out.trans (hb.mono HB0.out.size))
  clear hb HG0 HS0 HR0 HB0
  have g_0 := HG1.out.c 0 _ rfl
  have g_1 := HG1.out.c 1 _ rfl
  have g_2 := HG1.out.c 2 _ rfl
  have s_0 := HS1.out.c 0 _ rfl
  have s_1 := HS1.out.c 1 _ rfl
  have s_z := HS1.out.fz
  have r_0 := HR1.out.c 0 _ rfl
  have r_1 := HR1.out.c 1 _ rfl
  have r_z := HR1.out.fz
  by_cases h0 : E = 0
  · have HE0 := Lib.hid (HE.out.symm.trans h0)
    have HOK := Lib.hid (checkAt_ok HE0.out)
    subst h0
    go_wp2_with fail
    refine (HWI.out HOK.out.1 _ HB1.out).mono ?_
    rintro e w2 ⟨rfl, hb⟩
    clear g_0 g_1 g_2 s_0 s_1 s_z r_0 r_1 r_z
    have HG2 := Lib.hid (HG1.out.keep hb)
    have HS2 := Lib.hid (HS1.out.keep hb)
    have HR2 := Lib.hid (HR1.out.keep hb)
    have HB2 := Lib.hid (HB1.out.trans (hb.mono HB1.out.size))
    clear hb HG1 HS1 HR1 HB1
    have g_0 := HG2.out.c 0 _ rfl
    have g_1 := HG2.out.c 1 _ rfl
    have g_2 := HG2.out.c 2 _ rfl
    have s_0 := HS2.out.c 0 _ rfl
    have s_1 := HS2.out.c 1 _ rfl
    have s_z := HS2.out.fz
    have r_0 := HR2.out.c 0 _ rfl
    have r_1 := HR2.out.c 1 _ rfl
    have r_z := HR2.out.fz
    by_cases h1 : I = on
    · have HV := Lib.hid (show stepV P dd on left qs now = .tuple #[.agg #[.int .i64 on, .int .i64 left], .int .i64 0] from (if_pos HE0.out).trans (by rw [← HII.out]; unfold stepS; rw [if_pos h1]))
      subst h1
      go_wp2_with fail
      have hs := (HR2.out).setRow [.int .i64 I, .int .i64 left] rfl
      have y0 : ((w2.setCell ⟨r, 0, none⟩ (.int .i64 I)).setCell ⟨r, 1, none⟩ (.int .i64 left)).cell? ⟨r, 0, none⟩ = some (.int .i64 I) := hs.c 0 _ rfl
      have y1 : ((w2.setCell ⟨r, 0, none⟩ (.int .i64 I)).setCell ⟨r, 1, none⟩ (.int .i64 left)).cell? ⟨r, 1, none⟩ = some (.int .i64 left) := hs.c 1 _ rfl
      (try simp only [Exit.inBlock, Exit.then])
      refine bodyPost_ret (by simp [results, Try.results19, go_sem, y0, y1]; try rfl) rfl ?_
      exact ⟨by rw [HV.out], set_below HB2.out HWR.out [.int .i64 I, .int .i64 left]⟩
    · by_cases h2 : on = -1
      · have w3' : IntKind.i64.wrap (now - left) = now - left := IntWalk.i64_in _ (by have h := HOK.out; have h' := check_ok h.1; exact ⟨by omega, by omega⟩)
        by_cases h3 : dd ≤ now - left
        · have HV := Lib.hid (show stepV P dd on left qs now = .tuple #[.agg #[.int .i64 I, .int .i64 left], .int .i64 0] from (if_pos HE0.out).trans (by rw [← HII.out]; unfold stepS; rw [if_neg h1, if_neg (fun h => h h2), if_pos h3]))
          have t2 : (I == -1) = false := by rw [beq_eq_false_iff_ne]; intro h; exact h1 (h.trans h2.symm)
          subst h2
          clear h1
          go_upto_region 11 with fail
          obtain ⟨W5, hW5⟩ : ∃ x, x = (w2.setCell ⟨s, 0, none⟩ (.int .i64 I)) := ⟨_, rfl⟩
          have HS5 := Lib.hid (show RowAt W5 s [.int .i64 I, .int .i64 left] by rw [hW5]; exact row_cell HS2.out _)
          have HR5 := Lib.hid (show RowAt W5 r [.int .i64 0, .int .i64 0] by rw [hW5]; exact HR2.out.other hsr [.int .i64 I])
          have HB5 := Lib.hid (show Below w.heap.size w W5 by rw [hW5]; exact set_below HB2.out HWS.out [.int .i64 I])
          rw [← hW5]
          clear hW5 s_0 s_1 s_z r_0 r_1 r_z
          have s_0 := HS5.out.c 0 _ rfl
          have s_1 := HS5.out.c 1 _ rfl
          have s_z := HS5.out.fz
          have r_0 := HR5.out.c 0 _ rfl
          have r_1 := HR5.out.c 1 _ rfl
          have r_z := HR5.out.fz
          go_wp2_with fail
          have hs := (HR5.out).setRow [.int .i64 I, .int .i64 left] rfl
          have y0 : ((W5.setCell ⟨r, 0, none⟩ (.int .i64 I)).setCell ⟨r, 1, none⟩ (.int .i64 left)).cell? ⟨r, 0, none⟩ = some (.int .i64 I) := hs.c 0 _ rfl
          have y1 : ((W5.setCell ⟨r, 0, none⟩ (.int .i64 I)).setCell ⟨r, 1, none⟩ (.int .i64 left)).cell? ⟨r, 1, none⟩ = some (.int .i64 left) := hs.c 1 _ rfl
          (try simp only [Exit.inBlock, Exit.then])
          refine bodyPost_ret (by simp [results, Try.results19, go_sem, y0, y1]; try rfl) rfl ?_
          exact ⟨by rw [HV.out], set_below HB5.out HWR.out [.int .i64 I, .int .i64 left]⟩
        · have HV := Lib.hid (show stepV P dd on left qs now = .tuple #[.agg #[.int .i64 on, .int .i64 left], .int .i64 0] from (if_pos HE0.out).trans (by rw [← HII.out]; unfold stepS; rw [if_neg h1, if_neg (fun h => h h2), if_neg h3]))
          have t2 : (I == -1) = false := by rw [beq_eq_false_iff_ne]; intro h; exact h1 (h.trans h2.symm)
          subst h2
          clear h1
          go_wp2_with fail
          have hs := (HR2.out).setRow [.int .i64 (-1), .int .i64 left] rfl
          have y0 : ((w2.setCell ⟨r, 0, none⟩ (.int .i64 (-1))).setCell ⟨r, 1, none⟩ (.int .i64 left)).cell? ⟨r, 0, none⟩ = some (.int .i64 (-1)) := hs.c 0 _ rfl
          have y1 : ((w2.setCell ⟨r, 0, none⟩ (.int .i64 (-1))).setCell ⟨r, 1, none⟩ (.int .i64 left)).cell? ⟨r, 1, none⟩ = some (.int .i64 left) := hs.c 1 _ rfl
          (try simp only [Exit.inBlock, Exit.then])
          refine bodyPost_ret (by simp [results, Try.results19, go_sem, y0, y1]; try rfl) rfl ?_
          exact ⟨by rw [HV.out], set_below HB2.out HWR.out [.int .i64 (-1), .int .i64 left]⟩
      · have HV := Lib.hid (show stepV P dd on left qs now = .tuple #[.agg #[.int .i64 (-1), .int .i64 now], .int .i64 0] from (if_pos HE0.out).trans (by rw [← HII.out]; unfold stepS; rw [if_neg h1, if_pos h2]))
        have t2 : (I == on) = false := by rw [beq_eq_false_iff_ne]; exact h1
        have t3 : (on != -1) = true := by simpa using h2
        clear h1 h2
        go_wp2_with fail
        have hs := (HR2.out).setRow [.int .i64 (-1), .int .i64 now] rfl
        have y0 : ((w2.setCell ⟨r, 0, none⟩ (.int .i64 (-1))).setCell ⟨r, 1, none⟩ (.int .i64 now)).cell? ⟨r, 0, none⟩ = some (.int .i64 (-1)) := hs.c 0 _ rfl
        have y1 : ((w2.setCell ⟨r, 0, none⟩ (.int .i64 (-1))).setCell ⟨r, 1, none⟩ (.int .i64 now)).cell? ⟨r, 1, none⟩ = some (.int .i64 now) := hs.c 1 _ rfl
        (try simp only [Exit.inBlock, Exit.then])
        refine bodyPost_ret (by simp [results, Try.results19, go_sem, y0, y1]; try rfl) rfl ?_
        exact ⟨by rw [HV.out], set_below HB2.out HWR.out [.int .i64 (-1), .int .i64 now]⟩
  · have HV := Lib.hid (show stepV P dd on left qs now = .tuple #[.agg #[.int .i64 0, .int .i64 0], .int .i64 E] from (if_neg (by rw [← HE.out]; exact h0)).trans (by rw [← HE.out]))
    have t1 : (E != 0) = true := by simpa using h0
    clear h0
    go_wp2_with fail
    have hs := (HR1.out).setRow [.int .i64 0, .int .i64 0] rfl
    have y0 : ((w1.setCell ⟨r, 0, none⟩ (.int .i64 0)).setCell ⟨r, 1, none⟩ (.int .i64 0)).cell? ⟨r, 0, none⟩ = some (.int .i64 0) := hs.c 0 _ rfl
    have y1 : ((w1.setCell ⟨r, 0, none⟩ (.int .i64 0)).setCell ⟨r, 1, none⟩ (.int .i64 0)).cell? ⟨r, 1, none⟩ = some (.int .i64 0) := hs.c 1 _ rfl
    (try simp only [Exit.inBlock, Exit.then])
    refine bodyPost_ret (by simp [results, Try.results19, go_sem, y0, y1]; try rfl) rfl ?_
    exact ⟨by rw [HV.out], set_below HB1.out HWR.out [.int .i64 0, .int .i64 0]⟩
end Go.Proofs.Ytojbhbifbennfaa
