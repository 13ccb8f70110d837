/- The contract of the specification's Direction. -/
import Derived.Test.YthghcppdfeeloaaDi
namespace Go.Proofs.Ythghcppdfeeloaa
open Go.RowKit

set_option maxHeartbeats 2000000 in
theorem rdirection_some (b off cap : Nat) (ks : List (Int × Int)) (w : World) (hb : b < w.heap.size) (hc : Knots w b off ks) (he : checkL ks = 0) :
    Calls Try.prog 17 #[.slice (some ⟨b, off, none⟩) ks.length cap] w fun e w' => e = .returned (.int .i64 (dirI ks)) ∧ Below w.heap.size w w' := by
  obtain ⟨h0, h32, _, _⟩ := check_zero ks he
  obtain ⟨z, hz⟩ : ∃ z, z = dirI ks := ⟨_, rfl⟩
  rw [← hz]
  have hz2 : z = if upL ks (ks.length - 1) = true then (if dnL ks (ks.length - 1) = true then 2 else 1) else (if dnL ks (ks.length - 1) = true then -1 else 0) := hz
  obtain ⟨n, hn⟩ : ∃ n, n = ks.length := ⟨_, rfl⟩
  rw [← hn] at h0 h32 hz2 ⊢
  have HC := Lib.hid hc
  have HN := Lib.hid hn
  have HZ := Lib.hid hz2
  clear hc hz hz2 hn he
  go_enter Try.func17, Try.ntmps17
  go_wp2_with fail
  all_goals
    go_loopw [3, 4, 5] (fun r f i wr => ∃ j : Nat, j ≤ n - 1 ∧ i = .int .i64 ((j : Int) + 1) ∧ r = .bool (upL ks j) ∧ f = .bool (dnL ks j) ∧ Below w.heap.size w wr) (fun _ _ i _ => n - (intOf i).toNat)
    case atStart => exact ⟨0, by omega, by go_num, rfl, rfl, Below.refl _ _⟩
    case round =>
      obtain ⟨j, hj, rfl, rfl, rfl, hbel2⟩ := hrel
      have HB2 := Lib.hid hbel2
      by_cases hlt2 : j < n - 1
      · have HU := Lib.hid (upL_succ ks j)
        have HV := Lib.hid (dnL_succ ks j)
        have c0 := (HC.out.at hb hbel2 j (by rw [← HN.out]; omega)).2
        have c1 := (HC.out.at hb hbel2 (j + 1) (by rw [← HN.out]; omega)).2
        obtain ⟨X, hX⟩ : ∃ X, X = ky ks j := ⟨_, rfl⟩
        obtain ⟨Y, hY⟩ : ∃ Y, Y = ky ks (j + 1) := ⟨_, rfl⟩
        rw [← hX] at c0 HU HV
        rw [← hY] at c1 HU HV
        obtain ⟨T1, hT1⟩ : ∃ t, decide (X < Y) = t := ⟨_, rfl⟩
        obtain ⟨T2, hT2⟩ : ∃ t, decide (Y < X) = t := ⟨_, rfl⟩
        obtain ⟨U, hU⟩ : ∃ t, t = upL ks j := ⟨_, rfl⟩
        obtain ⟨V, hV⟩ : ∃ t, t = dnL ks j := ⟨_, rfl⟩
        rw [← hU, hT1] at HU
        rw [← hV, hT2] at HV
        rw [← hU, ← hV]
        have hj1 : j + 1 < n := by omega
        clear hX hY hU hV hbel2
        cases U <;> cases T1 <;> cases V <;> cases T2
        all_goals
          go_wp2_with fail
          go_quiet (fail)
          go_wp2_with fail
          go_quiet (fail)
          go_wp2_with fail
          go_roundw
          case rel => exact ⟨j + 1, by omega, by go_num, by rw [HU.out]; rfl, by rw [HV.out]; rfl, HB2.out.trans (below_drewN _ _ _)⟩
          case measure => simp [intOf]; omega
      · obtain rfl : j = n - 1 := by omega
        obtain ⟨U, hU⟩ : ∃ t, t = upL ks (n - 1) := ⟨_, rfl⟩
        obtain ⟨V, hV⟩ : ∃ t, t = dnL ks (n - 1) := ⟨_, rfl⟩
        rw [← hU, ← hV] at HZ
        rw [← hU, ← hV]
        clear hU hV hbel2
        cases U <;> cases V
        all_goals
          have hzz := HZ.out
          simp only [Bool.false_eq_true, if_false, if_true] at hzz
          subst hzz
          clear HZ
          go_wp2_with fail
          go_ret
          exact ⟨rfl, HB2.out⟩

end Go.Proofs.Ythghcppdfeeloaa
