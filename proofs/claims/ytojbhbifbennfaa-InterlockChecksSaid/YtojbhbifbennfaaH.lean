/- Contract of Waiting. -/
import Derived.Test.YtojbhbifbennfaaG
import Derived.OwnWalk
import Derived.Deep.RegionHeld3
namespace Go.Proofs.Ytojbhbifbennfaa
open Go.RowKit Go.Shelf

def waitV (P : Nat) (dd on left : Int) (qs : List RqD) (now : Int) : Value := if checkAtE P dd on left qs now = 0 then (if winI qs on = -1 ∨ winI qs on = on then .tuple #[.int .i64 0, .int .i64 0, .int .i64 9] else if on ≠ -1 then .tuple #[.int .i64 (winI qs on), .int .i64 (now + max dd 1), .int .i64 0] else .tuple #[.int .i64 (winI qs on), .int .i64 (max now (left + dd)), .int .i64 0]) else .tuple #[.int .i64 0, .int .i64 0, .int .i64 (checkAtE P dd on left qs now)]

set_option maxHeartbeats 8000000 in
set_option maxRecDepth 100000 in
theorem waitX_any (nm : Value) (pa : Option Addr) (P pc : Nat) (dd : Int) (on left : Int) (a : Option Addr) (cap : Nat) (qs : List RqD) (now : Int) (w : World) (hin : InS w a qs.length 3 (flat rqL qs)) : Calls Try.prog 21 #[.agg #[nm, .slice pa P pc, .int .i64 dd], .agg #[.int .i64 on, .int .i64 left], .slice a qs.length cap, .int .i64 now] w fun e w' => e = .returned (waitV P dd on left qs now) ∧ Below w.heap.size w w' := by
  obtain ⟨E, hE⟩ : ∃ E, E = checkAtE P dd on left qs now := ⟨_, rfl⟩
  have hck := fun (W' : World) (hb : Below w.heap.size w W') => checkAt_any nm pa P pc dd on left a cap qs now W' (hin.keep hb)
  have hwi := fun (ho : checkE P dd on left qs = 0) (W' : World) (hb : Below w.heap.size w W') => winner_any on left a cap qs (by have h := check_ok ho; rw [h.1]; exact h.2.2.1) W' (hin.keep hb)
  rw [← hE] at hck
  have HCK := Lib.hid hck
  have HE := Lib.hid hE
  obtain ⟨I, hI⟩ : ∃ I, I = winI qs on := ⟨_, rfl⟩
  rw [← hI] at hwi
  have HII := Lib.hid hI
  obtain ⟨N, hN⟩ : ∃ N, N = qs.length := ⟨_, rfl⟩
  rw [← hN] at HCK hwi ⊢
  have HWI := Lib.hid hwi
  obtain ⟨W, g, s, hW, hg, hs, R1, R2, B, sz⟩ := box2 w #[nm, .slice pa P pc, .int .i64 dd] 33 #[.int .i64 on, .int .i64 left] 37
  have HB0 := Lib.hid B
  have HG0 := Lib.hid R1
  have HS0 := Lib.hid R2
  clear hck hwi hE hI hN hin R1 R2 B sz
  go_enter Try.func21, Try.ntmps21
  go_upto_region 1 with fail
  rw [← hW]
  try rw [← hs]
  try rw [← hg]
  clear hW hg hs
  have g_0 := HG0.out.c 0 _ rfl
  have g_1 := HG0.out.c 1 _ rfl
  have g_2 := HG0.out.c 2 _ rfl
  have s_0 := HS0.out.c 0 _ rfl
  have s_1 := HS0.out.c 1 _ rfl
  go_wp2_with fail
  refine (HCK.out _ HB0.out).mono ?_
  rintro e w1 ⟨rfl, hb⟩
  clear g_0 g_1 g_2 s_0 s_1
  have HG1 := Lib.hid (HG0.out.keep hb)
  have HS1 := Lib.hid (HS0.out.keep hb)
  have HB1 := Lib.hid (HB0.out.trans (hb.mono HB0.out.size))
  clear hb HG0 HS0 HB0
  have g_0 := HG1.out.c 0 _ rfl
  have g_1 := HG1.out.c 1 _ rfl
  have g_2 := HG1.out.c 2 _ rfl
  have s_0 := HS1.out.c 0 _ rfl
  have s_1 := HS1.out.c 1 _ rfl
  by_cases h0 : E = 0
  · have HE0 := Lib.hid (HE.out.symm.trans h0)
    have HOK := Lib.hid (checkAt_ok HE0.out)
    subst h0
    go_wp2_with fail
    refine (HWI.out HOK.out.1 _ HB1.out).mono ?_
    rintro e w2 ⟨rfl, hb⟩
    clear g_0 g_1 g_2 s_0 s_1
    have HG2 := Lib.hid (HG1.out.keep hb)
    have HS2 := Lib.hid (HS1.out.keep hb)
    have HB2 := Lib.hid (HB1.out.trans (hb.mono HB1.out.size))
    clear hb HG1 HS1 HB1
    have g_0 := HG2.out.c 0 _ rfl
    have g_1 := HG2.out.c 1 _ rfl
    have g_2 := HG2.out.c 2 _ rfl
    have s_0 := HS2.out.c 0 _ rfl
    have s_1 := HS2.out.c 1 _ rfl
    by_cases h1 : I = -1
    · have HV := Lib.hid (show waitV P dd on left qs now = .tuple #[.int .i64 0, .int .i64 0, .int .i64 9] from (if_pos HE0.out).trans (by rw [← HII.out]; rw [if_pos (.inl h1)]))
      subst h1
      go_wp2_with fail
      go_ret3
      exact ⟨by rw [HV.out]; (first | done | rfl), HB2.out⟩
    · by_cases h2 : I = on
      · have HV := Lib.hid (show waitV P dd on left qs now = .tuple #[.int .i64 0, .int .i64 0, .int .i64 9] from (if_pos HE0.out).trans (by rw [← HII.out]; rw [if_pos (.inr h2)]))
        have t1 : (I == -1) = false := by rw [beq_eq_false_iff_ne]; exact h1
        have h2x := h2.symm
        clear h2
        subst h2x
        clear h1
        go_wp2_with fail
        go_ret3
        exact ⟨by rw [HV.out]; (first | done | rfl), HB2.out⟩
      · by_cases h3 : on = -1
        · have HV := Lib.hid (show waitV P dd on left qs now = .tuple #[.int .i64 I, .int .i64 (max now (left + dd)), .int .i64 0] from (if_pos HE0.out).trans (by rw [← HII.out]; rw [if_neg (by rintro (h | h); exact h1 h; exact h2 h), if_neg (fun h => h h3)]))
          have t1 : (I == -1) = false := by rw [beq_eq_false_iff_ne]; exact h1
          have t2 : (I == on) = false := by rw [beq_eq_false_iff_ne]; exact h2
          obtain ⟨Y, hY⟩ : ∃ Y, left + dd = Y := ⟨_, rfl⟩
          have w3' : IntKind.i64.wrap (left + dd) = Y := by rw [← hY]; exact IntWalk.i64_in _ (by have h := HOK.out; have h' := check_ok h.1; exact ⟨by omega, by omega⟩)
          have w4' : IntKind.i64.wrap Y = Y := by rw [← hY]; exact IntWalk.i64_in _ (by have h := HOK.out; have h' := check_ok h.1; exact ⟨by omega, by omega⟩)
          rw [hY] at HV
          obtain ⟨MX, hMX⟩ : ∃ M, max now Y = M := ⟨_, rfl⟩
          rw [hMX] at HV
          subst h3
          clear h1 h2
          have HKD := Lib.hid (show w2.drew.cell? ⟨g, 2, none⟩ = some (.int .i64 dd) ∧ w2.drew.cell? ⟨s, 1, none⟩ = some (.int .i64 left) ∧ Below w.heap.size w w2.drew from ⟨HG2.out.drew.c 2 _ rfl, HS2.out.drew.c 1 _ rfl, HB2.out.drew⟩)
          go_upto_region 9 with fail
          go_region_held3 (fun w' => w'.cell? ⟨g, 2, none⟩ = some (.int .i64 dd) ∧ w'.cell? ⟨s, 1, none⟩ = some (.int .i64 left) ∧ Below w.heap.size w w')
            (first | (with_reducible exact ⟨g_2, s_1, HB2.out⟩) | (with_reducible exact HKD.out) | go_keep) ((fail))
          all_goals
            rename_i hHeld
            have hB := hHeld.2.2
            clear hHeld
            go_wp2_with fail
            go_ret3
            exact ⟨by rw [HV.out]; (first | done | rfl), by first | exact hB | exact hB.drew | exact HB2.out⟩
        · have HV := Lib.hid (show waitV P dd on left qs now = .tuple #[.int .i64 I, .int .i64 (now + max dd 1), .int .i64 0] from (if_pos HE0.out).trans (by rw [← HII.out]; rw [if_neg (by rintro (h | h); exact h1 h; exact h2 h), if_pos h3]))
          have t1 : (I == -1) = false := by rw [beq_eq_false_iff_ne]; exact h1
          have t2 : (I == on) = false := by rw [beq_eq_false_iff_ne]; exact h2
          have t3 : (on != -1) = true := by simpa using h3
          obtain ⟨MX, hMX⟩ : ∃ M, max dd 1 = M := ⟨_, rfl⟩
          obtain ⟨Y, hY⟩ : ∃ Y, now + MX = Y := ⟨_, rfl⟩
          have w3' : IntKind.i64.wrap (now + MX) = Y := by rw [← hY]; exact IntWalk.i64_in _ (by have h := HOK.out; have h' := check_ok h.1; exact ⟨by omega, by omega⟩)
          have w4' : IntKind.i64.wrap Y = Y := by rw [← hY]; exact IntWalk.i64_in _ (by have h := HOK.out; have h' := check_ok h.1; exact ⟨by omega, by omega⟩)
          rw [hMX, hY] at HV
          clear h1 h2 h3
          have HKD := Lib.hid (show w2.drew.cell? ⟨g, 2, none⟩ = some (.int .i64 dd) ∧ w2.drew.cell? ⟨s, 1, none⟩ = some (.int .i64 left) ∧ Below w.heap.size w w2.drew from ⟨HG2.out.drew.c 2 _ rfl, HS2.out.drew.c 1 _ rfl, HB2.out.drew⟩)
          go_upto_region 8 with fail
          go_region_held3 (fun w' => w'.cell? ⟨g, 2, none⟩ = some (.int .i64 dd) ∧ w'.cell? ⟨s, 1, none⟩ = some (.int .i64 left) ∧ Below w.heap.size w w')
            (first | (with_reducible exact ⟨g_2, s_1, HB2.out⟩) | (with_reducible exact HKD.out) | go_keep) ((fail))
          all_goals
            rename_i hHeld
            have hB := hHeld.2.2
            clear hHeld
            go_wp2_with fail
            go_ret3
            exact ⟨by rw [HV.out]; (first | done | rfl), by first | exact hB | exact hB.drew | exact HB2.out⟩
  · have HV := Lib.hid (show waitV P dd on left qs now = .tuple #[.int .i64 0, .int .i64 0, .int .i64 E] from (if_neg (by rw [← HE.out]; exact h0)).trans (by rw [← HE.out]))
    have t1 : (E != 0) = true := by simpa using h0
    clear h0
    go_wp2_with fail
    go_ret3
    exact ⟨by rw [HV.out]; (first | done | rfl), HB1.out⟩
end Go.Proofs.Ytojbhbifbennfaa
