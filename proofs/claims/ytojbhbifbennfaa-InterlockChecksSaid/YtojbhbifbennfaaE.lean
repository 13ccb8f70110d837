/- Contracts of isMember, isDead, check, checkAt and Winner. -/
import Derived.Test.YtojbhbifbennfaaD
namespace Go.Proofs.Ytojbhbifbennfaa
open Go.RowKit Go.Shelf

def mB (on : Int) (P : Nat) : Bool := decide (0 ≤ on) && decide (on < P)
def dB (dd : Int) : Bool := decide (0 ≤ dd) && decide (dd ≤ 3600)
def stateB (on left : Int) (P : Nat) (dd : Int) : Bool := (decide (on = -1) || mB on P) && (decide (0 ≤ left) && dB dd)
def checkE (P : Nat) (dd on left : Int) (qs : List RqD) : Int := if qs.length ≠ P then 1 else if qs.any noB = true then 1 else if stateB on left P dd = false then 1 else 0
def checkAtE (P : Nat) (dd on left : Int) (qs : List RqD) (now : Int) : Int := if checkE P dd on left qs ≠ 0 then checkE P dd on left qs else if now < 0 ∨ 6311433599 < now ∨ now < left then 6 else 0
theorem member_any (nm : Value) (pa : Option Addr) (P pc : Nat) (dd : Int) (i : Int) (w : World) : Calls Try.prog 71 #[.agg #[nm, .slice pa P pc, .int .i64 dd], .int .i64 i] w fun e w' => e = .returned (.bool (mB i P)) ∧ Below w.heap.size w w' := by
  by_cases h1 : 0 ≤ i
  · by_cases h2 : i < (P : Int)
    · have HY := Lib.hid (show mB i P = true by unfold mB; rw [decide_eq_true h1, decide_eq_true h2]; rfl)
      go_enter Try.func71, Try.ntmps71
      go_wp2_with fail
      go_ret
      exact ⟨by rw [HY.out]; (first | done | rfl), (Below.refl _ _).alloc (Nat.le_refl _) _⟩
    · have HY := Lib.hid (show mB i P = false by unfold mB; rw [decide_eq_true h1, decide_eq_false h2]; rfl)
      go_enter Try.func71, Try.ntmps71
      go_wp2_with fail
      go_ret
      exact ⟨by rw [HY.out]; (first | done | rfl), (Below.refl _ _).alloc (Nat.le_refl _) _⟩
  · have HY := Lib.hid (show mB i P = false by unfold mB; rw [decide_eq_false h1]; rfl)
    go_enter Try.func71, Try.ntmps71
    go_wp2_with fail
    go_ret
    exact ⟨by rw [HY.out]; (first | done | rfl), (Below.refl _ _).alloc (Nat.le_refl _) _⟩
theorem dead_any (dd : Int) (w : World) : Calls Try.prog 42 #[.int .i64 dd] w fun e w' => e = .returned (.bool (dB dd)) ∧ Below w.heap.size w w' := by
  by_cases h1 : 0 ≤ dd
  · have HY := Lib.hid (show dB dd = decide (dd ≤ 3600) by unfold dB; rw [decide_eq_true h1, Bool.true_and])
    go_enter Try.func42, Try.ntmps42
    go_wp2_with fail
    go_ret
    exact ⟨by rw [HY.out]; (first | done | rfl), Below.refl _ _⟩
  · have HY := Lib.hid (show dB dd = false by unfold dB; rw [decide_eq_false h1]; rfl)
    go_enter Try.func42, Try.ntmps42
    go_wp2_with fail
    go_ret
    exact ⟨by rw [HY.out]; (first | done | rfl), Below.refl _ _⟩
theorem eg_noLevel : ∀ args w, (callFunc 80 args).run Try.prog w = .ok (.enter 80 args) w := enters_of Try.func80 (by kernel_rfl) rfl

set_option maxHeartbeats 4000000 in
set_option maxRecDepth 100000 in
theorem check_any (nm : Value) (pa : Option Addr) (P pc : Nat) (dd : Int) (on left : Int) (a : Option Addr) (cap : Nat) (qs : List RqD) (w : World) (hin : InS w a qs.length 3 (flat rqL qs)) : Calls Try.prog 50 #[.agg #[nm, .slice pa P pc, .int .i64 dd], .agg #[.int .i64 on, .int .i64 left], .slice a qs.length cap] w fun e w' => e = .returned (.int .i64 (checkE P dd on left qs)) ∧ Below w.heap.size w w' := by
  obtain ⟨W, g, s, hW, hg, hs, R1, R2, B, sz⟩ := box2 w #[nm, .slice pa P pc, .int .i64 dd] 33 #[.int .i64 on, .int .i64 left] 37
  have HB0 := Lib.hid B
  have HG0 := Lib.hid R1
  have HS0 := Lib.hid R2
  have hcon := fun (W' : World) (hb : Below w.heap.size w W') => con_any 80 #[] noB a cap qs W' eg_noLevel (fun W2 l k n _ => noLevel_any l k n W2) (hin.keep hb)
  obtain ⟨F, hF⟩ : ∃ F, F = qs.any noB := ⟨_, rfl⟩
  rw [← hF] at hcon
  obtain ⟨N, hN⟩ : ∃ N, N = qs.length := ⟨_, rfl⟩
  rw [← hN] at hcon ⊢
  have HCON := Lib.hid hcon
  have hme := fun w => member_any nm pa P pc dd on w
  obtain ⟨M, hM⟩ : ∃ M, M = mB on P := ⟨_, rfl⟩
  rw [← hM] at hme
  have HME := Lib.hid hme
  have hde := fun w => dead_any dd w
  obtain ⟨D, hD⟩ : ∃ D, D = dB dd := ⟨_, rfl⟩
  rw [← hD] at hde
  have HDE := Lib.hid hde
  have HN := Lib.hid hN
  have HF := Lib.hid hF
  have HM := Lib.hid hM
  have HD := Lib.hid hD
  clear hcon hme hde hin R1 R2 B sz hF hN hM hD
  go_enter Try.func50, Try.ntmps50
  go_upto_region 2 with fail
  rw [← hW]
  try rw [← hs]
  try rw [← hg]
  clear hW hg hs
  have g_0 := HG0.out.c 0 _ rfl
  have g_1 := HG0.out.c 1 _ rfl
  have g_2 := HG0.out.c 2 _ rfl
  have s_0 := HS0.out.c 0 _ rfl
  have s_1 := HS0.out.c 1 _ rfl
  by_cases h1 : N = P
  · have h1x := h1.symm
    subst h1x
    go_wp2_with fail
    refine (HCON.out _ HB0.out).mono ?_
    rintro e w1 ⟨rfl, hb⟩
    clear g_0 g_1 g_2 s_0 s_1
    have HG1 := Lib.hid (HG0.out.keep hb)
    have HS1 := Lib.hid (HS0.out.keep hb)
    have HB1 := Lib.hid (HB0.out.trans (hb.mono HB0.out.size))
    clear hb HG0 HS0 HB0
    have HE1 := Lib.hid (show ¬ qs.length ≠ P from fun h => h HN.out.symm)
    clear h1
    cases F
    · have HE2 := Lib.hid (show ¬ qs.any noB = true from by rw [← HF.out]; simp)
      have g_0 := HG1.out.c 0 _ rfl
      have g_1 := HG1.out.c 1 _ rfl
      have g_2 := HG1.out.c 2 _ rfl
      have s_0 := HS1.out.c 0 _ rfl
      have s_1 := HS1.out.c 1 _ rfl
      by_cases h2 : on = -1
      · subst h2
        by_cases h3 : left < 0
        · have HY := Lib.hid (show checkE P dd (-1) left qs = 1 from (if_neg HE1.out).trans ((if_neg HE2.out).trans (if_pos (by unfold stateB; rw [decide_eq_false (show ¬ 0 ≤ left by omega), Bool.false_and, Bool.and_false]))))
          go_wp2_with fail
          go_ret
          exact ⟨by rw [HY.out]; (first | done | rfl), HB1.out⟩
        · go_wp2_with fail
          refine (HDE.out _).mono ?_
          rintro e w8 ⟨rfl, hb⟩
          have HB8 := Lib.hid (HB1.out.trans (hb.mono HB1.out.size))
          clear hb
          cases D
          · have HY := Lib.hid (show checkE P dd (-1) left qs = 1 from (if_neg HE1.out).trans ((if_neg HE2.out).trans (if_pos (by unfold stateB; rw [← HD.out, Bool.and_false, Bool.and_false]))))
            go_wp2_with fail
            go_ret
            exact ⟨by rw [HY.out]; (first | done | rfl), HB8.out⟩
          · have HY := Lib.hid (show checkE P dd (-1) left qs = 0 from (if_neg HE1.out).trans ((if_neg HE2.out).trans (if_neg (by unfold stateB; rw [← HD.out, decide_eq_true (show 0 ≤ left by omega)]; simp))))
            go_wp2_with fail
            go_ret
            exact ⟨by rw [HY.out]; (first | done | rfl), HB8.out⟩
      · have t2 : (on != -1) = true := by simpa using h2
        go_wp2_with fail
        refine (HME.out _).mono ?_
        rintro e w5 ⟨rfl, hb⟩
        clear g_0 g_1 g_2 s_0 s_1
        have HG5 := Lib.hid (HG1.out.keep hb)
        have HS5 := Lib.hid (HS1.out.keep hb)
        have HB5 := Lib.hid (HB1.out.trans (hb.mono HB1.out.size))
        clear hb HG1 HS1 HB1
        have g_0 := HG5.out.c 0 _ rfl
        have g_1 := HG5.out.c 1 _ rfl
        have g_2 := HG5.out.c 2 _ rfl
        have s_0 := HS5.out.c 0 _ rfl
        have s_1 := HS5.out.c 1 _ rfl
        cases M
        · have HY := Lib.hid (show checkE P dd on left qs = 1 from (if_neg HE1.out).trans ((if_neg HE2.out).trans (if_pos (by unfold stateB; rw [← HM.out, decide_eq_false h2]; rfl))))
          go_wp2_with fail
          go_ret
          exact ⟨by rw [HY.out]; (first | done | rfl), HB5.out⟩
        · have HO := Lib.hid (show (decide (on = -1) || mB on P) = true by rw [← HM.out, Bool.or_true])
          by_cases h3 : left < 0
          · have HY := Lib.hid (show checkE P dd on left qs = 1 from (if_neg HE1.out).trans ((if_neg HE2.out).trans (if_pos (by unfold stateB; rw [decide_eq_false (show ¬ 0 ≤ left by omega), Bool.false_and, Bool.and_false]))))
            go_wp2_with fail
            go_ret
            exact ⟨by rw [HY.out]; (first | done | rfl), HB5.out⟩
          · go_wp2_with fail
            refine (HDE.out _).mono ?_
            rintro e w8 ⟨rfl, hb⟩
            have HB8 := Lib.hid (HB5.out.trans (hb.mono HB5.out.size))
            clear hb
            cases D
            · have HY := Lib.hid (show checkE P dd on left qs = 1 from (if_neg HE1.out).trans ((if_neg HE2.out).trans (if_pos (by unfold stateB; rw [← HD.out, Bool.and_false, Bool.and_false]))))
              go_wp2_with fail
              go_ret
              exact ⟨by rw [HY.out]; (first | done | rfl), HB8.out⟩
            · have HY := Lib.hid (show checkE P dd on left qs = 0 from (if_neg HE1.out).trans ((if_neg HE2.out).trans (if_neg (by unfold stateB; rw [← HD.out, decide_eq_true (show 0 ≤ left by omega), HO.out]; simp))))
              go_wp2_with fail
              go_ret
              exact ⟨by rw [HY.out]; (first | done | rfl), HB8.out⟩
    · have HY := Lib.hid (show checkE P dd on left qs = 1 from (if_neg HE1.out).trans (if_pos HF.out.symm))
      go_wp2_with fail
      go_ret
      exact ⟨by rw [HY.out]; (first | done | rfl), HB1.out⟩
  · have t1 : ((N : Int) != (P : Int)) = true := by simp; omega
    have HY := Lib.hid (show checkE P dd on left qs = 1 from if_pos (by rw [← HN.out]; exact h1))
    go_wp2_with fail
    go_ret
    exact ⟨by rw [HY.out]; (first | done | rfl), HB0.out⟩
end Go.Proofs.Ytojbhbifbennfaa
