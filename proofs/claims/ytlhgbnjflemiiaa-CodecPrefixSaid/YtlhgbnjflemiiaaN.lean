/- The law CodecPrefix returns true. -/
import Derived.Test.YtlhgbnjflemiiaaJ
import Derived.Test.YtlhgbnjflemiiaaM
namespace Go.Proofs.Ytlhgbnjflemiiaa
open Go.RowKit

theorem valid_yes (s : ByteArray) (hs : s.size ≤ 9223372036854775807) (h : 0 ≤ depthL (sb s)) (w : World) : Calls Try.prog 30 #[.string s] w fun e w' => e = .returned (.bool true) ∧ w = w' := by
  have := valid_any s w hs
  rwa [decide_eq_true (show 0 ≤ depthL s.data.toList from h)] at this
theorem valid_no (s : ByteArray) (hs : s.size ≤ 9223372036854775807) (h : ¬ 0 ≤ depthL (sb s)) (w : World) : Calls Try.prog 30 #[.string s] w fun e w' => e = .returned (.bool false) ∧ w = w' := by
  have := valid_any s w hs
  rwa [decide_eq_false (show ¬ 0 ≤ depthL s.data.toList from h)] at this
theorem sb_extract (s : ByteArray) (a b : Nat) : sb (s.extract a b) = ((sb s).drop a).take (b - a) := Lib.extract_data s a b
theorem sb_app (s t : ByteArray) : sb (s ++ t) = sb s ++ sb t := by
  obtain ⟨a⟩ := s
  obtain ⟨b⟩ := t
  unfold sb
  rw [ByteArray.mk_append_mk]
theorem wrap_word (n : Int) : ∃ a : Nat, IntKind.u64.wrap n = (a : Int) ∧ a < 18446744073709551616 := ⟨word n, by rw [IntKind.wrap_u64]; unfold word; omega, by unfold word; omega⟩

set_option maxHeartbeats 1000000 in
theorem prefix_law (s : ByteArray) (n : Int) (w : World) (hs : s.size ≤ 9223372036854775807) :
    Calls Try.prog 7 #[.string s, .int .i64 n] w fun e w' => e = .returned (.bool true) ∧ Below w.heap.size w w' := by
  by_cases h300 : 300 < s.size
  · go_enter Try.func7, Try.ntmps7
    go_wp2_with fail
    refine (awake_any _).mono ?_
    rintro e w1 ⟨rfl, hb1⟩
    go_wp2
    go_ret
    exact ⟨rfl, hb1⟩
  · have hd : decide (300 < (s.size : Int)) = false := by simp; omega
    by_cases hv : 0 ≤ depthL (sb s)
    · have hpos : 0 < s.size := by
        have := (depthL_iff _).1 hv
        have h3 := this.2
        rw [sb_length] at h3
        omega
      obtain ⟨a, hw, ha⟩ := wrap_word n
      have hk : a % s.size < s.size := Nat.mod_lt _ hpos
      have H1 := Lib.hid (valid_yes s hs hv)
      have H2 : Hid (∀ w, Calls Try.prog 30 #[.string (s.extract 0 (a % s.size))] w fun e w' => e = .returned (.bool false) ∧ w = w') := by
        refine valid_no _ ?_ ?_
        · rw [← sb_length, sb_extract, List.length_take, List.length_drop, sb_length]; omega
        · rw [sb_extract, List.drop_zero, Nat.sub_zero]
          exact prefix_no _ _ (by rw [sb_length]; exact hk) hv
      have H3 : Hid (∀ w, Calls Try.prog 30 #[.string (s ++ s.extract 0 1)] w fun e w' => e = .returned (.bool false) ∧ w = w') := by
        refine valid_no _ ?_ ?_
        · rw [← sb_length, sb_app, sb_extract, List.length_append, List.length_take, List.length_drop, sb_length]; omega
        · rw [sb_app, sb_extract]
          refine longer_no _ _ (fun e => ?_) hv
          have h0 := congrArg List.length e
          rw [List.length_take, List.length_drop, sb_length, List.length_nil] at h0
          omega
      have H4 : Hid (∀ w, Calls Try.prog 29 #[.string s] w fun e w' => e = .returned (.int .i64 (depthL (sb s))) ∧ w = w') := fun w => depth_any s w hs
      clear hs
      generalize depthL (sb s) = dd at hv H4
      go_enter Try.func7, Try.ntmps7
      go_wp2_with fail
      refine (awake_any _).mono ?_
      rintro e w1 ⟨rfl, hb1⟩
      have B1 := Lib.hid hb1; clear hb1
      go_wp2_with fail
      refine (H1.out _).mono ?_
      rintro e w2 ⟨rfl, rfl⟩
      go_wp2_with fail
      refine (H2.out _).mono ?_
      rintro e w2 ⟨rfl, rfl⟩
      go_wp2_with fail
      refine (H3.out _).mono ?_
      rintro e w2 ⟨rfl, rfl⟩
      go_wp2_with fail
      refine (H4.out _).mono ?_
      rintro e w2 ⟨rfl, rfl⟩
      go_wp2
      go_ret
      exact ⟨rfl, B1.out⟩
    · have H1 := Lib.hid (valid_no s hs hv)
      go_enter Try.func7, Try.ntmps7
      go_wp2_with fail
      refine (awake_any _).mono ?_
      rintro e w1 ⟨rfl, hb1⟩
      have B1 := Lib.hid hb1; clear hb1
      go_wp2_with fail
      refine (H1.out _).mono ?_
      rintro e w2 ⟨rfl, rfl⟩
      go_wp2
      go_ret
      exact ⟨rfl, B1.out⟩
end Go.Proofs.Ytlhgbnjflemiiaa
