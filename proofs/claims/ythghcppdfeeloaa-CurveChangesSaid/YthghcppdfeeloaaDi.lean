/- Contracts of Direction, of the package and of the specification. -/
import Derived.Test.YthghcppdfeeloaaCr
namespace Go.Proofs.Ythghcppdfeeloaa
open Go.RowKit

def upL (ks : List (Int × Int)) (k : Nat) : Bool := (List.range k).any fun i => decide (ky ks i < ky ks (i + 1))
def dnL (ks : List (Int × Int)) (k : Nat) : Bool := (List.range k).any fun i => decide (ky ks (i + 1) < ky ks i)
/-- the direction -/
def dirI (ks : List (Int × Int)) : Int :=
  if upL ks (ks.length - 1) = true then (if dnL ks (ks.length - 1) = true then 2 else 1) else (if dnL ks (ks.length - 1) = true then -1 else 0)
theorem any_succ (p : Nat → Bool) (k : Nat) : (List.range (k + 1)).any p = ((List.range k).any p || p k) := by
  rw [List.range_succ, List.any_append, List.any_cons, List.any_nil, Bool.or_false]
theorem upL_succ (ks : List (Int × Int)) (k : Nat) : upL ks (k + 1) = (upL ks k || decide (ky ks k < ky ks (k + 1))) := any_succ _ k
theorem dnL_succ (ks : List (Int × Int)) (k : Nat) : dnL ks (k + 1) = (dnL ks k || decide (ky ks (k + 1) < ky ks k)) := any_succ _ k

theorem check_zero (ks : List (Int × Int)) (h : checkL ks = 0) : 0 < ks.length ∧ ks.length ≤ 32 ∧ fitL ks ks.length = true ∧ riseL ks (ks.length - 1) = true := by
  unfold checkL at h
  split at h
  · omega
  · split at h
    · omega
    · split at h
      · omega
      · rename_i h1 h2 h3
        exact ⟨by omega, by omega, by simpa using h2, by simpa using h3⟩
theorem IsKnots.some {w : World} {a : Option Addr} {n : Nat} {ks : List (Int × Int)} (h : IsKnots w a n ks) (h0 : 0 < ks.length) : ∃ b off, a = some ⟨b, off, none⟩ ∧ b < w.heap.size ∧ n = ks.length ∧ Knots w b off ks := by
  rcases h with ⟨_, rfl⟩ | ⟨b, off, h1, h2, h3, _, h5⟩
  · simp at h0
  · exact ⟨b, off, h1, h2, h3, h5⟩

set_option maxHeartbeats 400000 in
theorem direction_bad (a : Option Addr) (n cap : Nat) (ks : List (Int × Int)) (w : World) (h : IsKnots w a n ks) (he : checkL ks ≠ 0) :
    Calls Try.prog 14 #[.slice a n cap] w fun e w' => e = .returned (.tuple #[.int .i64 0, .int .i64 (checkL ks)]) ∧ Below w.heap.size w w' := by
  have hk := check_any a n cap ks w h
  obtain ⟨E, hE⟩ : ∃ E, E = checkL ks := ⟨_, rfl⟩
  rw [← hE] at hk he ⊢
  have HK := Lib.hid hk
  have t0 : (E != 0) = true := by rw [bne_iff_ne]; exact he
  clear hk he h hE
  go_enter Try.func14, Try.ntmps14
  go_wp2_with fail
  refine HK.out.mono ?_
  rintro e w1 ⟨rfl, hb1⟩
  have B1 := Lib.hid hb1
  clear hb1
  go_wp2_with fail
  go_ret2
  exact ⟨rfl, B1.out⟩

set_option maxHeartbeats 2000000 in
theorem direction_some (b off cap : Nat) (ks : List (Int × Int)) (w : World) (hb : b < w.heap.size) (hc : Knots w b off ks) (he : checkL ks = 0) :
    Calls Try.prog 14 #[.slice (some ⟨b, off, none⟩) ks.length cap] w fun e w' => e = .returned (.tuple #[.int .i64 (dirI ks), .int .i64 0]) ∧ Below w.heap.size w w' := by
  obtain ⟨h0, h32, _, _⟩ := check_zero ks he
  have hk := check_some b off cap ks w h0 h32 hb hc
  rw [he] at hk
  have HK := Lib.hid hk
  obtain ⟨z, hz⟩ : ∃ z, z = dirI ks := ⟨_, rfl⟩
  rw [← hz]
  have hz2 : z = if upL ks (ks.length - 1) = true then (if dnL ks (ks.length - 1) = true then 2 else 1) else (if dnL ks (ks.length - 1) = true then -1 else 0) := hz
  obtain ⟨n, hn⟩ : ∃ n, n = ks.length := ⟨_, rfl⟩
  rw [← hn] at HK h0 h32 hz2 ⊢
  have HC := Lib.hid hc
  have HN := Lib.hid hn
  have HZ := Lib.hid hz2
  clear hc hk hz hz2 hn he
  go_enter Try.func14, Try.ntmps14
  go_wp2_with fail
  refine HK.out.mono ?_
  rintro e w1 ⟨rfl, hb1⟩
  have B1 := Lib.hid hb1
  clear hb1 HK
  go_wp2_with fail
  all_goals
    go_loopw [5, 6, 16] (fun r f i wr => ∃ j : Nat, j ≤ n - 1 ∧ i = .int .i64 j ∧ r = .bool (upL ks j) ∧ f = .bool (dnL ks j) ∧ Below w.heap.size w wr) (fun _ _ i _ => n - 1 - (intOf i).toNat)
    case atStart => exact ⟨0, by omega, rfl, rfl, rfl, B1.out⟩
    case round =>
      obtain ⟨j, hj, rfl, rfl, rfl, hbel2⟩ := hrel
      have HB2 := Lib.hid hbel2
      by_cases hlt2 : j < n - 1
      · have HU := Lib.hid (upL_succ ks j)
        have HV := Lib.hid (dnL_succ ks j)
        have c0 := (HC.out.at hb hbel2 j (by rw [← HN.out]; omega)).2
        have c1 := (HC.out.at hb hbel2 (j + 1) (by rw [← HN.out]; omega)).2
        obtain ⟨X, hX⟩ : ∃ X, X = ky ks j := ⟨_, rfl⟩
        obtain ⟨Y, hY⟩ : ∃ Y, Y = ky ks (j + 1) := ⟨_, rfl⟩
        rw [← hX] at c0 HU HV
        rw [← hY] at c1 HU HV
        obtain ⟨T1, hT1⟩ : ∃ t, decide (X < Y) = t := ⟨_, rfl⟩
        obtain ⟨T2, hT2⟩ : ∃ t, decide (Y < X) = t := ⟨_, rfl⟩
        obtain ⟨U, hU⟩ : ∃ t, t = upL ks j := ⟨_, rfl⟩
        obtain ⟨V, hV⟩ : ∃ t, t = dnL ks j := ⟨_, rfl⟩
        rw [← hU, hT1] at HU
        rw [← hV, hT2] at HV
        rw [← hU, ← hV]
        have hj1 : j + 1 < n := by omega
        clear hX hY hU hV hbel2
        cases U <;> cases T1 <;> cases V <;> cases T2
        all_goals
          go_wp2_with fail
          go_quiet (fail)
          go_wp2_with fail
          go_quiet (fail)
          go_wp2_with fail
          go_roundw
          case rel => exact ⟨j + 1, by omega, by go_num, by rw [HU.out]; rfl, by rw [HV.out]; rfl, HB2.out.trans (below_drewN _ _ _)⟩
          case measure => simp [intOf]; omega
      · obtain rfl : j = n - 1 := by omega
        obtain ⟨U, hU⟩ : ∃ t, t = upL ks (n - 1) := ⟨_, rfl⟩
        obtain ⟨V, hV⟩ : ∃ t, t = dnL ks (n - 1) := ⟨_, rfl⟩
        rw [← hU, ← hV] at HZ
        rw [← hU, ← hV]
        clear hU hV hbel2
        cases U <;> cases V
        all_goals
          have hzz := HZ.out
          simp only [Bool.false_eq_true, if_false, if_true] at hzz
          subst hzz
          clear HZ
          go_wp2_with fail
          go_ret2
          exact ⟨rfl, HB2.out⟩

theorem direction_any (a : Option Addr) (n cap : Nat) (ks : List (Int × Int)) (w : World) (h : IsKnots w a n ks) :
    Calls Try.prog 14 #[.slice a n cap] w fun e w' => e = .returned (.tuple #[.int .i64 (if checkL ks = 0 then dirI ks else 0), .int .i64 (checkL ks)]) ∧ Below w.heap.size w w' := by
  by_cases he : checkL ks = 0
  · obtain ⟨b, off, rfl, hb, rfl, hc⟩ := h.some (check_zero ks he).1
    rw [if_pos he, he]
    exact direction_some b off cap ks w hb hc he
  · rw [if_neg he]
    exact direction_bad a n cap ks w h he
end Go.Proofs.Ythghcppdfeeloaa
