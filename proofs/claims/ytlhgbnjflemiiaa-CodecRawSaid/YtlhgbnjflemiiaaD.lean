/- Contracts of the codec functions that measure values: measure, measureList, Skip, Depth, Valid. -/
import Derived.Test.YtlhgbnjflemiiaaC
namespace Go.Proofs.Ytlhgbnjflemiiaa
open Go.RowKit

def Measures (r : Nat) : Prop := ∀ (s : ByteArray) (q : Int) (w : World), q.toNat = r → 0 ≤ q → q ≤ 1000 → s.size ≤ 9223372036854775807 →
  Calls Try.prog 57 #[.string s, .int .i64 q] w fun e w' => e = .returned (.tuple #[.int .i64 (meas r s.data.toList).1, .int .i64 (meas r s.data.toList).2]) ∧ w = w'
def MeasuresList (r : Nat) : Prop := ∀ (s : ByteArray) (q : Int) (w : World), q.toNat = r → 0 ≤ q → q ≤ 1000 → s.size ≤ 9223372036854775807 → kindL s.data.toList = 6 →
  Calls Try.prog 64 #[.string s, .int .i64 q] w fun e w' => e = .returned (.tuple #[.int .i64 (meas r s.data.toList).1, .int .i64 (meas r s.data.toList).2]) ∧ w = w'

theorem meas_flat (r : Nat) (l : List UInt8) (h : kindL l ≠ 6) : meas r l = flat l := by cases r <;> simp [meas, h]

theorem kind_cases (l : List UInt8) : kindL l = 0 ∨ kindL l = 1 ∨ kindL l = 2 ∨ kindL l = 3 ∨ kindL l = 4 ∨ kindL l = 5 ∨ kindL l = 6 := by
  cases l with
  | nil => simp [kindL]
  | cons c r => simp only [kindL]; unfold kindC; (repeat' split) <;> simp

set_option maxHeartbeats 2000000 in
theorem measure_of (r : Nat) (hl : MeasuresList r) : Measures r := by
  intro s q w hq h0 h1 hs
  have HK := kindOf_any s w
  have HL := hl s q w hq h0 h1 hs
  rcases kind_cases s.data.toList with hk | hk | hk | hk | hk | hk | hk
  all_goals rw [hk] at HK HL
  all_goals have H1 := Lib.hid HK; have H2 := Lib.hid HL; clear HK HL
  · have e : meas r s.data.toList = (0, 0) := by rw [meas_flat _ _ (by omega)]; simp [flat, hk]
    rw [e]
    clear hk hl H2 e
    go_enter Try.func57, Try.ntmps57
    go_wp2_with (first | (go_at_call 45; refine H1.out.mono ?_; rintro e w' ⟨rfl, rfl⟩))
    go_ret2
    exact ⟨rfl, rfl⟩
  · have e : meas r s.data.toList = (1, 0) := by rw [meas_flat _ _ (by omega)]; simp [flat, hk]
    rw [e]
    clear hk hl H2 e
    go_enter Try.func57, Try.ntmps57
    go_wp2_with (first | (go_at_call 45; refine H1.out.mono ?_; rintro e w' ⟨rfl, rfl⟩))
    go_ret2
    exact ⟨rfl, rfl⟩
  · have e : meas r s.data.toList = (1, 0) := by rw [meas_flat _ _ (by omega)]; simp [flat, hk]
    rw [e]
    clear hk hl H2 e
    go_enter Try.func57, Try.ntmps57
    go_wp2_with (first | (go_at_call 45; refine H1.out.mono ?_; rintro e w' ⟨rfl, rfl⟩))
    go_ret2
    exact ⟨rfl, rfl⟩
  · have e : meas r s.data.toList = ((tkU s.data.toList).2, 0) := by rw [meas_flat _ _ (by omega)]; simp [flat, hk]
    rw [e]
    clear hk hl H2 e
    go_enter Try.func57, Try.ntmps57
    go_wp2_with (first | (go_at_call 45; refine H1.out.mono ?_; rintro e w' ⟨rfl, rfl⟩) | (go_at_call 47; refine (takeUnsigned_any _ _).mono ?_; rintro e w' ⟨rfl, rfl⟩))
    go_ret2
    exact ⟨rfl, rfl⟩
  · have e : meas r s.data.toList = ((tkS s.data.toList).2, 0) := by rw [meas_flat _ _ (by omega)]; simp [flat, hk]
    rw [e]
    clear hk hl H2 e
    go_enter Try.func57, Try.ntmps57
    go_wp2_with (first | (go_at_call 45; refine H1.out.mono ?_; rintro e w' ⟨rfl, rfl⟩) | (go_at_call 49; refine (takeSigned_any _ _).mono ?_; rintro e w' ⟨rfl, rfl⟩))
    go_ret2
    exact ⟨rfl, rfl⟩
  · have e : meas r s.data.toList = (tkTn s.data.toList, 0) := by rw [meas_flat _ _ (by omega)]; simp [flat, hk]
    rw [e]
    clear hk hl H2 e
    go_enter Try.func57, Try.ntmps57
    go_wp2_with (first | (go_at_call 45; refine H1.out.mono ?_; rintro e w' ⟨rfl, rfl⟩) | (go_at_call 50; refine (takeText_any _ _ (by omega)).mono ?_; rintro e w' ⟨rfl, rfl⟩))
    go_ret2
    exact ⟨rfl, rfl⟩
  · have H3 := Lib.hid (H2.out rfl); clear H2
    generalize meas r s.data.toList = p at H3 ⊢
    clear hk hl
    go_enter Try.func57, Try.ntmps57
    go_wp2_with (first | (go_at_call 45; refine H1.out.mono ?_; rintro e w' ⟨rfl, rfl⟩) | (go_at_call 64; refine H3.out.mono ?_; rintro e w' ⟨rfl, rfl⟩))
    go_ret2
    exact ⟨rfl, rfl⟩

set_option maxHeartbeats 400000 in
theorem measureList_0 : MeasuresList 0 := by
  intro s q w hq h0 h1 hs hk
  obtain rfl : q = 0 := by omega
  have e : meas 0 s.data.toList = (0, 0) := by simp [meas, hk]
  rw [e]
  have HH := takeList_any s w hs
  generalize tkH s.data.toList 6 = p at *
  obtain ⟨n, z⟩ := p
  have H := Lib.hid HH; clear HH e hk
  by_cases hz : z = 0
  · subst hz
    go_enter Try.func64, Try.ntmps64
    go_wp2_with (first | (go_at_call 51; refine H.out.mono ?_; rintro e w' ⟨rfl, rfl⟩))
    go_ret2
    exact ⟨rfl, rfl⟩
  · have hz' : ((z : Int) == 0) = false := by simp; omega
    go_enter Try.func64, Try.ntmps64
    go_wp2_with (first | (go_at_call 51; refine H.out.mono ?_; rintro e w' ⟨rfl, rfl⟩))
    go_ret2
    exact ⟨rfl, rfl⟩

theorem extract_end (s : ByteArray) (a : Nat) : (s.extract a s.size).data.toList = s.data.toList.drop a := Lib.extract_to_end s a

set_option maxHeartbeats 1000000 in
theorem measureList_succ (r : Nat) (hr : r < 1000) (ih : Measures r) : MeasuresList (r + 1) := by
  intro s q w hq h0 h1 hs hk
  have e : meas (r + 1) s.data.toList = if (tkH s.data.toList 6).2 = 0 then (0, 0) else measL (meas r) s.data.toList (tkH s.data.toList 6).1 (tkH s.data.toList 6).2 0 := by simp [meas, hk]
  rw [e]
  have HH := takeList_any s w hs
  have hb := tkH_size s.data.toList 6 (by omega)
  rw [size_len] at hb
  generalize tkH s.data.toList 6 = p at *
  obtain ⟨n, z⟩ := p
  simp only at hb HH ⊢
  obtain ⟨hb1, hb2, hb3⟩ := hb
  have H := Lib.hid HH; clear HH e hk
  have hq' : ((q : Int) == 0) = false := by simp; omega
  have h01 : 1 ≤ q := by omega
  have hq1 := Lib.hid hq; clear hq
  by_cases hz : z = 0
  · subst hz
    go_enter Try.func64, Try.ntmps64
    go_wp2_with (first | (go_at_call 51; refine H.out.mono ?_; rintro e w' ⟨rfl, rfl⟩))
    go_ret2
    exact ⟨rfl, rfl⟩
  · have hz' : ((z : Int) == 0) = false := by simp; omega
    rw [if_neg hz]
    obtain ⟨R, hR⟩ : ∃ R, measL (meas r) s.data.toList n z 0 = R := ⟨_, rfl⟩
    rw [hR]
    have HR := Lib.hid hR; clear hR
    have hih := Lib.hid ih; clear ih
    go_enter Try.func64, Try.ntmps64
    go_wp2_with (first | (go_at_call 51; refine H.out.mono ?_; rintro e w' ⟨rfl, rfl⟩))
    go_loop [4, 5, 21] (fun a b i => ∃ k z' d' : Nat, k ≤ n ∧ i = .int .i64 k ∧ a = .int .i64 z' ∧ b = .int .i64 d' ∧ z' ≤ s.size ∧ d' ≤ 1000 ∧ measL (meas r) s.data.toList (n - k) z' d' = R) (fun _ _ i => n - (intOf i).toNat)
    case atStart => exact ⟨0, z, 0, by omega, rfl, rfl, rfl, by omega, by omega, HR.out⟩
    case round =>
      obtain ⟨k, z', d', hk, rfl, rfl, rfl, hz1, hd1, hm⟩ := hrel
      by_cases hlt : k < n
      · rw [show n - k = (n - (k + 1)) + 1 by omega] at hm
        unfold measL at hm
        have hms := meas_size r (s.data.toList.drop z')
        rw [List.length_drop, size_len] at hms
        have HM := hih.out (s.extract z' s.size) (q - 1) w (by have := hq1.out; omega) (by omega) (by omega) (by rw [← size_len, extract_end, List.length_drop, size_len]; omega)
        rw [extract_end] at HM
        generalize meas r (s.data.toList.drop z') = p at hm HM hms
        obtain ⟨y, d2⟩ := p
        simp only at hm HM hms
        obtain ⟨hy1, hy2⟩ := hms
        have HM' := Lib.hid HM; clear HM
        have hm' := Lib.hid hm; clear hm
        by_cases hy : y = 0
        · subst hy
          have hm2 := hm'.out
          rw [if_pos rfl] at hm2
          subst hm2
          go_wp2_with (first | (go_at_call 57; refine HM'.out.mono ?_; rintro e w' ⟨rfl, rfl⟩))
          go_ret2
          exact ⟨rfl, rfl⟩
        · have hy' : ((y : Int) == 0) = false := by simp; omega
          have hm2 := hm'.out
          rw [if_neg hy] at hm2
          have hm3 := Lib.hid hm2; clear hm2
          go_wp2_with (first | (go_at_call 57; refine HM'.out.mono ?_; rintro e w' ⟨rfl, rfl⟩))
          go_round
          case rel => exact ⟨k + 1, z' + y, max d' d2, by omega, by go_num, by go_num, by go_num, by omega, by omega, hm3.out⟩
          case measure => simp [intOf]; omega
      · obtain rfl : n = k := by omega
        rw [Nat.sub_self] at hm
        unfold measL at hm
        subst hm
        go_wp2
        go_ret2
        exact ⟨rfl, rfl⟩

theorem measures : ∀ r, r ≤ 1000 → Measures r
  | 0, _ => measure_of 0 measureList_0
  | r + 1, h => measure_of (r + 1) (measureList_succ r (by omega) (measures r (by omega)))


set_option maxHeartbeats 400000 in
theorem skip_any (s : ByteArray) (at_ : Int) (w : World) (hs : s.size ≤ 9223372036854775807) (h63 : -9223372036854775808 ≤ at_) :
    Calls Try.prog 26 #[.string s, .int .i64 at_] w fun e w' => e = .returned (if 0 ≤ at_ ∧ at_ ≤ s.size ∧ (meas 16 (s.data.toList.drop at_.toNat)).1 ≠ 0 then .tuple #[.int .i64 (at_ + (meas 16 (s.data.toList.drop at_.toNat)).1), .bool true] else .tuple #[.int .i64 0, .bool false]) ∧ w = w' := by
  by_cases h0 : at_ < 0
  · rw [if_neg (by omega)]
    go_enter Try.func26, Try.ntmps26
    go_wp2
    go_ret2
    exact ⟨rfl, rfl⟩
  · obtain ⟨a, rfl⟩ : ∃ a : Nat, at_ = a := ⟨at_.toNat, by omega⟩
    have hd : decide ((a : Int) < 0) = false := by simp
    by_cases h1 : a ≤ s.size
    · have HM := measures 16 (by omega) (s.extract a s.size) 16 w rfl (by omega) (by omega) (by rw [← size_len, extract_end, List.length_drop, size_len]; omega)
      have hms := meas_size 16 (s.data.toList.drop a)
      rw [List.length_drop, size_len] at hms
      rw [extract_end] at HM
      rw [Int.toNat_natCast]
      generalize meas 16 (s.data.toList.drop a) = p at HM hms ⊢
      obtain ⟨y, d2⟩ := p
      simp only at HM hms ⊢
      have H := Lib.hid HM; clear HM
      by_cases hy : y = 0
      · subst hy
        rw [if_neg (by simp)]
        go_enter Try.func26, Try.ntmps26
        go_wp2_with (go_at_call 57; refine H.out.mono ?_; rintro e w' ⟨rfl, rfl⟩)
        go_ret2
        exact ⟨rfl, rfl⟩
      · have hy' : ((y : Int) == 0) = false := by simp; omega
        rw [if_pos ⟨by omega, by omega, hy⟩]
        go_enter Try.func26, Try.ntmps26
        go_wp2_with (go_at_call 57; refine H.out.mono ?_; rintro e w' ⟨rfl, rfl⟩)
        go_ret2
        exact ⟨rfl, rfl⟩
    · rw [if_neg (by omega)]
      go_enter Try.func26, Try.ntmps26
      go_wp2
      go_ret2
      exact ⟨rfl, rfl⟩

/-- the depth of an encoding, or -1 -/
def depthL (l : List UInt8) : Int := if (meas 16 l).1 = 0 ∨ (meas 16 l).1 < l.length then -1 else (meas 16 l).2

set_option maxHeartbeats 400000 in
theorem depth_any (s : ByteArray) (w : World) (hs : s.size ≤ 9223372036854775807) :
    Calls Try.prog 29 #[.string s] w fun e w' => e = .returned (.int .i64 (depthL s.data.toList)) ∧ w = w' := by
  have HM := measures 16 (by omega) s 16 w rfl (by omega) (by omega) hs
  have hms := meas_size 16 s.data.toList
  unfold depthL
  rw [size_len] at hms ⊢
  generalize meas 16 s.data.toList = p at HM hms ⊢
  obtain ⟨y, d2⟩ := p
  simp only at HM hms ⊢
  have H := Lib.hid HM; clear HM
  by_cases hy : y = 0
  · subst hy
    rw [if_pos (Or.inl rfl)]
    go_enter Try.func29, Try.ntmps29
    go_wp2_with (go_at_call 57; refine H.out.mono ?_; rintro e w' ⟨rfl, rfl⟩)
    go_ret
    exact ⟨rfl, rfl⟩
  · have hy' : ((y : Int) == 0) = false := by simp; omega
    by_cases hl : y < s.size
    · rw [if_pos (Or.inr hl)]
      go_enter Try.func29, Try.ntmps29
      go_wp2_with (go_at_call 57; refine H.out.mono ?_; rintro e w' ⟨rfl, rfl⟩)
      go_ret
      exact ⟨rfl, rfl⟩
    · rw [if_neg (by omega)]
      go_enter Try.func29, Try.ntmps29
      go_wp2_with (go_at_call 57; refine H.out.mono ?_; rintro e w' ⟨rfl, rfl⟩)
      go_ret
      exact ⟨rfl, rfl⟩

set_option maxHeartbeats 400000 in
theorem valid_any (s : ByteArray) (w : World) (hs : s.size ≤ 9223372036854775807) :
    Calls Try.prog 30 #[.string s] w fun e w' => e = .returned (.bool (decide (0 ≤ depthL s.data.toList))) ∧ w = w' := by
  go_enter Try.func30, Try.ntmps30
  go_wp2_with (go_at_call 29; refine (depth_any _ _ (by omega)).mono ?_; rintro e w' ⟨rfl, rfl⟩)
  go_ret
  exact ⟨rfl, rfl⟩

end Go.Proofs.Ytlhgbnjflemiiaa
