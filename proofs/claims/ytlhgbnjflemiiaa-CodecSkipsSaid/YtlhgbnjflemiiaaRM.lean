/- The law CodecSkips returns true. -/
import Derived.Test.YtlhgbnjflemiiaaRL
import Derived.Test.YtlhgbnjflemiiaaJ
namespace Go.Proofs.Ytlhgbnjflemiiaa
open Go.RowKit

theorem restL_0 (s : ByteArray) : restL s 0 = s.data.toList := by unfold restL; rw [List.drop_zero]
set_option maxHeartbeats 1000000 in
theorem depthR_any (s : ByteArray) (w : World) (hs : s.size ≤ 9223372036854775807) :
    Calls Try.prog 28 #[.string s] w fun e w' => e = .returned (.int .i64 (depthL s.data.toList)) ∧ Below w.heap.size w w' := by
  have HM := skipsR 16 (by omega) s 0 16 w rfl (by omega) (by omega) hs (by omega)
  have hms := meas_size 16 s.data.toList
  rw [restL_0] at HM
  unfold depthL
  rw [size_len] at hms ⊢
  generalize meas 16 s.data.toList = p at HM hms ⊢
  obtain ⟨y, d2⟩ := p
  unfold skv at HM
  simp only at HM hms ⊢
  by_cases hy : y = 0
  · rw [if_pos hy] at HM
    rw [if_pos (Or.inl hy)]
    have H := Lib.hid HM; clear HM
    have hx : (((-1 : Int)) != (s.size : Int)) = true := by simp [bne]
    go_enter Try.func28, Try.ntmps28
    go_wp2_with (go_at_call 27; refine H.out.mono ?_; rintro e w' ⟨rfl, hb⟩)
    go_ret
    exact ⟨rfl, hb⟩
  · rw [if_neg hy, Nat.zero_add] at HM
    have H := Lib.hid HM; clear HM
    by_cases hl : y < s.size
    · rw [if_pos (Or.inr hl)]
      have hx : ((y : Int) != (s.size : Int)) = true := by simp [bne]; omega
      go_enter Try.func28, Try.ntmps28
      go_wp2_with (go_at_call 27; refine H.out.mono ?_; rintro e w' ⟨rfl, hb⟩)
      go_ret
      exact ⟨rfl, hb⟩
    · rw [if_neg (by omega)]
      have hx : ((y : Int) != (s.size : Int)) = false := by simp [bne]; omega
      go_enter Try.func28, Try.ntmps28
      go_wp2_with (go_at_call 27; refine H.out.mono ?_; rintro e w' ⟨rfl, hb⟩)
      go_ret
      exact ⟨rfl, hb⟩

set_option maxHeartbeats 2000000 in
theorem skips_law (s : ByteArray) (at_ : Int) (w : World) (hs : s.size ≤ 9223372036854775807) (h1 : -9223372036854775808 ≤ at_) (h2 : at_ ≤ 9223372036854775807) :
    Calls Try.prog 6 #[.string s, .int .i64 at_] w fun e w' => e = .returned (.bool true) ∧ Below w.heap.size w w' := by
  by_cases h300 : 300 < s.size
  · go_enter Try.func6, Try.ntmps6
    go_wp2_with fail
    refine (awake_any _).mono ?_
    rintro e w1 ⟨rfl, hb1⟩
    go_wp2
    go_ret
    exact ⟨rfl, hb1⟩
  · have hd : decide (300 < (s.size : Int)) = false := by simp; omega
    have HS := fun w => skip_any s at_ w hs h1
    have HD := fun w => depth_any s w hs
    have HV := fun w => valid_any s w hs
    have HR := fun w => depthR_any s w hs
    generalize depthL s.data.toList = dd at HD HV HR
    have H3 := Lib.hid HD; have H4 := Lib.hid HV; have H5 := Lib.hid HR
    clear HD HV HR
    have hE : (decide (0 ≤ dd) == decide (0 ≤ dd)) = true := by simp
    by_cases hin : 0 ≤ at_ ∧ at_ ≤ s.size
    · obtain ⟨a, rfl⟩ : ∃ a : Nat, at_ = a := ⟨at_.toNat, by omega⟩
      have HK := fun w => skipsR 16 (by omega) s a 16 w rfl (by omega) (by omega) hs (by omega)
      rw [Int.toNat_natCast] at HS
      have hms := meas_size 16 (restL s a)
      rw [restL_length] at hms
      change ∀ w, Calls Try.prog 26 #[.string s, .int .i64 a] w fun e w' => e = .returned (if 0 ≤ (a : Int) ∧ (a : Int) ≤ s.size ∧ (meas 16 (restL s a)).1 ≠ 0 then .tuple #[.int .i64 ((a : Int) + (meas 16 (restL s a)).1), .bool true] else .tuple #[.int .i64 0, .bool false]) ∧ w = w' at HS
      generalize meas 16 (restL s a) = p at HS HK hms
      obtain ⟨y, d2⟩ := p
      unfold skv at HK
      simp only at HS HK hms
      have hd0 : decide ((a : Int) < 0) = false := by simp
      have hd1 : decide ((a : Int) ≤ (s.size : Int)) = true := by simp; omega
      by_cases hy : y = 0
      · rw [if_neg (fun h => h.2.2 hy)] at HS
        rw [if_pos hy] at HK
        have H1 := Lib.hid HS; have H2 := Lib.hid HK
        clear HS HK
        go_enter Try.func6, Try.ntmps6
        go_wp2_with fail
        refine (awake_any _).mono ?_
        rintro e w1 ⟨rfl, hb1⟩
        have B1 := Lib.hid hb1; clear hb1
        go_wp2_with fail
        refine (H1.out _).mono ?_
        rintro e w2 ⟨rfl, rfl⟩
        go_wp2_with fail
        refine (H2.out _).mono ?_
        rintro e w2 ⟨rfl, hb2⟩
        have B2 : Hid (Below w.heap.size w w2) := B1.out.trans (hb2.mono B1.out.size)
        clear hb2
        go_wp2_with fail
        refine (H5.out _).mono ?_
        rintro e w3 ⟨rfl, hb3⟩
        have B3 : Hid (Below w.heap.size w w3) := B2.out.trans (hb3.mono B2.out.size)
        clear hb3
        go_wp2_with fail
        refine (H3.out _).mono ?_
        rintro e w4 ⟨rfl, rfl⟩
        go_wp2_with fail
        refine (H4.out _).mono ?_
        rintro e w4 ⟨rfl, rfl⟩
        go_wp2
        go_ret
        exact ⟨by simp, B3.out⟩
      · rw [if_pos ⟨hin.1, hin.2, hy⟩] at HS
        rw [if_neg hy] at HK
        have ha : ((a : Int) + (y : Int)) = ((a + y : Nat) : Int) := by omega
        rw [ha] at HS
        have hb : a + y ≤ s.size := by omega
        generalize a + y = b at HS HK hb
        clear ha
        have H1 := Lib.hid HS; have H2 := Lib.hid HK
        clear HS HK
        have hd2 : decide (0 ≤ (b : Int)) = true := by simp
        have hmx : max (b : Int) 0 = b := by omega
        go_enter Try.func6, Try.ntmps6
        go_wp2_with fail
        refine (awake_any _).mono ?_
        rintro e w1 ⟨rfl, hb1⟩
        have B1 := Lib.hid hb1; clear hb1
        go_wp2_with fail
        refine (H1.out _).mono ?_
        rintro e w2 ⟨rfl, rfl⟩
        go_wp2_with fail
        refine (H2.out _).mono ?_
        rintro e w2 ⟨rfl, hb2⟩
        have B2 : Hid (Below w.heap.size w w2) := B1.out.trans (hb2.mono B1.out.size)
        clear hb2
        go_wp2_with fail
        refine (H5.out _).mono ?_
        rintro e w3 ⟨rfl, hb3⟩
        have B3 : Hid (Below w.heap.size w w3) := B2.out.trans (hb3.mono B2.out.size)
        clear hb3
        go_wp2_with fail
        refine (H3.out _).mono ?_
        rintro e w4 ⟨rfl, rfl⟩
        go_wp2_with fail
        refine (H4.out _).mono ?_
        rintro e w4 ⟨rfl, rfl⟩
        go_wp2
        go_ret
        exact ⟨by simp, B3.out⟩
    · have hf : ∀ X : Prop, ¬ (0 ≤ at_ ∧ at_ ≤ s.size ∧ X) := fun X h => hin ⟨h.1, h.2.1⟩
      simp only [if_neg (hf _)] at HS
      clear hf
      have H1 := Lib.hid HS; clear HS
      have hcs : at_ < 0 ∨ (s.size : Int) < at_ := by omega
      clear hin
      rcases hcs with hcs | hcs
      · have hd0 : decide ((0 : Int) ≤ at_) = false := by simp; omega
        go_enter Try.func6, Try.ntmps6
        go_wp2_with fail
        refine (awake_any _).mono ?_
        rintro e w1 ⟨rfl, hb1⟩
        have B1 := Lib.hid hb1; clear hb1
        go_wp2_with fail
        refine (H1.out _).mono ?_
        rintro e w2 ⟨rfl, rfl⟩
        go_wp2_with fail
        refine (H5.out _).mono ?_
        rintro e w3 ⟨rfl, hb3⟩
        have B3 : Hid (Below w.heap.size w w3) := B1.out.trans (hb3.mono B1.out.size)
        clear hb3
        go_wp2_with fail
        refine (H3.out _).mono ?_
        rintro e w4 ⟨rfl, rfl⟩
        go_wp2_with fail
        refine (H4.out _).mono ?_
        rintro e w4 ⟨rfl, rfl⟩
        go_wp2
        go_ret
        exact ⟨by simp, B3.out⟩
      · have hd0 : decide ((0 : Int) ≤ at_) = true := by simp; omega
        have hd1 : decide (at_ ≤ (s.size : Int)) = false := by simp; omega
        go_enter Try.func6, Try.ntmps6
        go_wp2_with fail
        refine (awake_any _).mono ?_
        rintro e w1 ⟨rfl, hb1⟩
        have B1 := Lib.hid hb1; clear hb1
        go_wp2_with fail
        refine (H1.out _).mono ?_
        rintro e w2 ⟨rfl, rfl⟩
        go_wp2_with fail
        refine (H5.out _).mono ?_
        rintro e w3 ⟨rfl, hb3⟩
        have B3 : Hid (Below w.heap.size w w3) := B1.out.trans (hb3.mono B1.out.size)
        clear hb3
        go_wp2_with fail
        refine (H3.out _).mono ?_
        rintro e w4 ⟨rfl, rfl⟩
        go_wp2_with fail
        refine (H4.out _).mono ?_
        rintro e w4 ⟨rfl, rfl⟩
        go_wp2
        go_ret
        exact ⟨by simp, B3.out⟩
end Go.Proofs.Ytlhgbnjflemiiaa
