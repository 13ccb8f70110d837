/- Contracts of checkAt, Winner and Step. -/
import Derived.Test.YtojbhbifbennfaaE
namespace Go.Proofs.Ytojbhbifbennfaa
open Go.RowKit Go.Shelf

theorem check_ok {P : Nat} {dd on left : Int} {qs : List RqD} (h : checkE P dd on left qs = 0) : qs.length = P ∧ qs.any noB = false ∧ (on = -1 ∨ (0 ≤ on ∧ on < P)) ∧ 0 ≤ left ∧ 0 ≤ dd ∧ dd ≤ 3600 := by
  unfold checkE at h
  split at h
  · cases h
  · rename_i h1
    split at h
    · cases h
    · rename_i h2
      split at h
      · cases h
      · rename_i h3
        have h4 : stateB on left P dd = true := by simpa using h3
        unfold stateB mB dB at h4
        simp only [Bool.and_eq_true, Bool.or_eq_true, decide_eq_true_eq] at h4
        obtain ⟨ha, hb, hc, hd⟩ := h4
        exact ⟨by omega, by simpa using h2, ha, hb, hc, hd⟩
theorem check_is (P : Nat) (dd on left : Int) (qs : List RqD) : checkE P dd on left qs = 0 ∨ checkE P dd on left qs = 1 := by
  unfold checkE
  split
  · exact .inr rfl
  · split
    · exact .inr rfl
    · split
      · exact .inr rfl
      · exact .inl rfl
def winV (P : Nat) (dd on left : Int) (qs : List RqD) : Value := if checkE P dd on left qs = 0 then .tuple #[.int .i64 (winI qs on), .int .i64 0] else .tuple #[.int .i64 0, .int .i64 1]
def stepS (on left dd now W : Int) : Int × Int := if W = on then (on, left) else if on ≠ -1 then (-1, now) else if dd ≤ now - left then (W, left) else (on, left)
def stepV (P : Nat) (dd on left : Int) (qs : List RqD) (now : Int) : Value := if checkAtE P dd on left qs now = 0 then .tuple #[.agg #[.int .i64 (stepS on left dd now (winI qs on)).1, .int .i64 (stepS on left dd now (winI qs on)).2], .int .i64 0] else .tuple #[.agg #[.int .i64 0, .int .i64 0], .int .i64 (checkAtE P dd on left qs now)]

set_option maxHeartbeats 4000000 in
set_option maxRecDepth 100000 in
theorem checkAt_any (nm : Value) (pa : Option Addr) (P pc : Nat) (dd : Int) (on left : Int) (a : Option Addr) (cap : Nat) (qs : List RqD) (now : Int) (w : World) (hin : InS w a qs.length 3 (flat rqL qs)) : Calls Try.prog 54 #[.agg #[nm, .slice pa P pc, .int .i64 dd], .agg #[.int .i64 on, .int .i64 left], .slice a qs.length cap, .int .i64 now] w fun e w' => e = .returned (.int .i64 (checkAtE P dd on left qs now)) ∧ Below w.heap.size w w' := by
  obtain ⟨E, hE⟩ : ∃ E, E = checkE P dd on left qs := ⟨_, rfl⟩
  have hck := fun (W' : World) (hb : Below w.heap.size w W') => check_any nm pa P pc dd on left a cap qs W' (hin.keep hb)
  rw [← hE] at hck
  have HCK := Lib.hid hck
  have HE := Lib.hid hE
  obtain ⟨N, hN⟩ : ∃ N, N = qs.length := ⟨_, rfl⟩
  rw [← hN] at HCK ⊢
  clear hck hE hN hin
  obtain ⟨W, g, s, hW, hg, hs, R1, R2, B, sz⟩ := box2 w #[nm, .slice pa P pc, .int .i64 dd] 33 #[.int .i64 on, .int .i64 left] 37
  have HB0 := Lib.hid B
  have HG0 := Lib.hid R1
  have HS0 := Lib.hid R2
  clear R1 R2 B sz
  go_enter Try.func54, Try.ntmps54
  go_upto_region 1 with fail
  rw [← hW]
  try rw [← hs]
  try rw [← hg]
  clear hW hg hs
  have g_0 := HG0.out.c 0 _ rfl
  have g_1 := HG0.out.c 1 _ rfl
  have g_2 := HG0.out.c 2 _ rfl
  have s_0 := HS0.out.c 0 _ rfl
  have s_1 := HS0.out.c 1 _ rfl
  go_wp2_with fail
  refine (HCK.out _ HB0.out).mono ?_
  rintro e w1 ⟨rfl, hb⟩
  clear g_0 g_1 g_2 s_0 s_1
  have HG1 := Lib.hid (HG0.out.keep hb)
  have HS1 := Lib.hid (HS0.out.keep hb)
  have HB1 := Lib.hid (HB0.out.trans (hb.mono HB0.out.size))
  clear hb HG0 HS0 HB0
  have g_0 := HG1.out.c 0 _ rfl
  have g_1 := HG1.out.c 1 _ rfl
  have g_2 := HG1.out.c 2 _ rfl
  have s_0 := HS1.out.c 0 _ rfl
  have s_1 := HS1.out.c 1 _ rfl
  by_cases h0 : E = 0
  · have HN0 := Lib.hid (show ¬ checkE P dd on left qs ≠ 0 from fun h => h (HE.out.symm.trans h0))
    subst h0
    by_cases h1 : now < 0
    · have HY := Lib.hid (show checkAtE P dd on left qs now = 6 from (if_neg HN0.out).trans (if_pos (.inl h1)))
      go_wp2_with fail
      go_ret
      exact ⟨by rw [HY.out]; (first | done | rfl), HB1.out⟩
    · by_cases h2 : 6311433599 < now
      · have HY := Lib.hid (show checkAtE P dd on left qs now = 6 from (if_neg HN0.out).trans (if_pos (.inr (.inl h2))))
        go_wp2_with fail
        go_ret
        exact ⟨by rw [HY.out]; (first | done | rfl), HB1.out⟩
      · by_cases h3 : now < left
        · have HY := Lib.hid (show checkAtE P dd on left qs now = 6 from (if_neg HN0.out).trans (if_pos (.inr (.inr h3))))
          go_wp2_with fail
          go_ret
          exact ⟨by rw [HY.out]; (first | done | rfl), HB1.out⟩
        · have HY := Lib.hid (show checkAtE P dd on left qs now = 0 from (if_neg HN0.out).trans (if_neg (by rintro (h | h | h) <;> omega)))
          go_wp2_with fail
          go_ret
          exact ⟨by rw [HY.out]; (first | done | rfl), HB1.out⟩
  · have t1 : (E != 0) = true := by simpa using h0
    have HY := Lib.hid (show checkAtE P dd on left qs now = E from (if_pos (by rw [← HE.out]; exact h0)).trans HE.out.symm)
    go_wp2_with fail
    go_ret
    exact ⟨by rw [HY.out]; (first | done | rfl), HB1.out⟩

set_option maxHeartbeats 4000000 in
set_option maxRecDepth 100000 in
theorem winnerX_any (nm : Value) (pa : Option Addr) (P pc : Nat) (dd : Int) (on left : Int) (a : Option Addr) (cap : Nat) (qs : List RqD) (w : World) (hin : InS w a qs.length 3 (flat rqL qs)) : Calls Try.prog 17 #[.agg #[nm, .slice pa P pc, .int .i64 dd], .agg #[.int .i64 on, .int .i64 left], .slice a qs.length cap] w fun e w' => e = .returned (winV P dd on left qs) ∧ Below w.heap.size w w' := by
  obtain ⟨E, hE⟩ : ∃ E, E = checkE P dd on left qs := ⟨_, rfl⟩
  have hck := fun (W' : World) (hb : Below w.heap.size w W') => check_any nm pa P pc dd on left a cap qs W' (hin.keep hb)
  have hwi := fun (ho : checkE P dd on left qs = 0) (W' : World) (hb : Below w.heap.size w W') => winner_any on left a cap qs (by have h := check_ok ho; rw [h.1]; exact h.2.2.1) W' (hin.keep hb)
  rw [← hE] at hck
  have HCK := Lib.hid hck
  have HE := Lib.hid hE
  obtain ⟨I, hI⟩ : ∃ I, I = winI qs on := ⟨_, rfl⟩
  rw [← hI] at hwi
  have HII := Lib.hid hI
  obtain ⟨N, hN⟩ : ∃ N, N = qs.length := ⟨_, rfl⟩
  rw [← hN] at HCK hwi ⊢
  have HWI := Lib.hid hwi
  clear hck hwi hE hI hN hin
  obtain ⟨W, g, s, hW, hg, hs, R1, R2, B, sz⟩ := box2 w #[nm, .slice pa P pc, .int .i64 dd] 33 #[.int .i64 on, .int .i64 left] 37
  have HB0 := Lib.hid B
  have HG0 := Lib.hid R1
  have HS0 := Lib.hid R2
  clear R1 R2 B sz
  go_enter Try.func17, Try.ntmps17
  go_upto_region 1 with fail
  rw [← hW]
  try rw [← hs]
  try rw [← hg]
  clear hW hg hs
  have g_0 := HG0.out.c 0 _ rfl
  have g_1 := HG0.out.c 1 _ rfl
  have g_2 := HG0.out.c 2 _ rfl
  have s_0 := HS0.out.c 0 _ rfl
  have s_1 := HS0.out.c 1 _ rfl
  go_wp2_with fail
  refine (HCK.out _ HB0.out).mono ?_
  rintro e w1 ⟨rfl, hb⟩
  clear g_0 g_1 g_2 s_0 s_1
  have HG1 := Lib.hid (HG0.out.keep hb)
  have HS1 := Lib.hid (HS0.out.keep hb)
  have HB1 := Lib.hid (HB0.out.trans (hb.mono HB0.out.size))
  clear hb HG0 HS0 HB0
  have g_0 := HG1.out.c 0 _ rfl
  have g_1 := HG1.out.c 1 _ rfl
  have g_2 := HG1.out.c 2 _ rfl
  have s_0 := HS1.out.c 0 _ rfl
  have s_1 := HS1.out.c 1 _ rfl
  by_cases h0 : E = 0
  · have HE0 := Lib.hid (HE.out.symm.trans h0)
    subst h0
    go_wp2_with fail
    refine (HWI.out HE0.out _ HB1.out).mono ?_
    rintro e w2 ⟨rfl, hb⟩
    have HB2 := Lib.hid (HB1.out.trans (hb.mono HB1.out.size))
    clear hb
    have HY := Lib.hid (show winV P dd on left qs = .tuple #[.int .i64 I, .int .i64 0] from (if_pos HE0.out).trans (by rw [← HII.out]))
    go_wp2_with fail
    go_ret2
    exact ⟨by rw [HY.out]; (first | done | rfl), HB2.out⟩
  · have HE1 := Lib.hid (show E = 1 from by
      have h := check_is P dd on left qs
      rw [← HE.out] at h
      exact h.resolve_left h0)
    have HV := Lib.hid (show winV P dd on left qs = .tuple #[.int .i64 0, .int .i64 1] from if_neg (by rw [← HE.out]; exact h0))
    have h1 := HE1.out
    subst h1
    go_wp2_with fail
    go_ret2
    exact ⟨by rw [HV.out]; (first | done | rfl), HB1.out⟩
end Go.Proofs.Ytojbhbifbennfaa
