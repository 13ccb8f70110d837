/- Contract of the specification's Skip. -/
import Derived.Test.YtlhgbnjflemiiaaRJ
namespace Go.Proofs.Ytlhgbnjflemiiaa
open Go.RowKit

/-- what the specification's Skip answers for the bytes at at_ -/
def skv (at_ : Nat) (p : Nat × Nat) : Value := if p.1 = 0 then .tuple #[.int .i64 (-1), .int .i64 0] else .tuple #[.int .i64 ((at_ + p.1 : Nat) : Int), .int .i64 p.2]
def SkipsR (r : Nat) : Prop := ∀ (s : ByteArray) (at_ : Nat) (q : Int) (w : World), q.toNat = r → 0 ≤ q → q ≤ 1000 → s.size ≤ 9223372036854775807 → at_ ≤ s.size →
  Calls Try.prog 27 #[.string s, .int .i64 at_, .int .i64 q] w fun e w' => e = .returned (skv at_ (meas r (restL s at_))) ∧ Below w.heap.size w w'
def SkipsRL (r : Nat) : Prop := ∀ (s : ByteArray) (at_ : Nat) (q : Int) (w : World), q.toNat = r → 0 ≤ q → q ≤ 1000 → s.size ≤ 9223372036854775807 → at_ ≤ s.size → kindL (restL s at_) = 6 →
  Calls Try.prog 27 #[.string s, .int .i64 at_, .int .i64 q] w fun e w' => e = .returned (skv at_ (meas r (restL s at_))) ∧ Below w.heap.size w w'

set_option maxHeartbeats 4000000 in
theorem skipR_of (r : Nat) (hl : SkipsRL r) : SkipsR r := by
  intro s at_ q w hq h0 h1 hs ha
  have HK := kindR_any s at_ w hs
  rcases kind_cases (restL s at_) with hk | hk | hk | hk | hk | hk | hk
  all_goals rw [hk] at HK
  all_goals have H1 := Lib.hid HK; clear HK
  · have e : skv at_ (meas r (restL s at_)) = .tuple #[.int .i64 (-1), .int .i64 0] := by rw [meas_flat _ _ (by omega)]; simp [flat, hk, skv]
    rw [e]
    clear hk hl e
    go_enter Try.func27, Try.ntmps27
    go_wp2_with (first | (go_at_call 19; refine H1.out.mono ?_; rintro e w' ⟨rfl, rfl⟩))
    go_ret2
    exact ⟨rfl, Below.refl _ _⟩
  · have hlt : at_ < s.size := by
      rcases Nat.lt_or_ge at_ s.size with h | h
      · exact h
      · rw [restL_nil s at_ h] at hk; simp [kindL] at hk
    have e : skv at_ (meas r (restL s at_)) = .tuple #[.int .i64 ((at_ + 1 : Nat) : Int), .int .i64 0] := by rw [meas_flat _ _ (by omega)]; simp [flat, hk, skv]
    rw [e]
    clear hk hl e
    go_enter Try.func27, Try.ntmps27
    go_wp2_with (first | (go_at_call 19; refine H1.out.mono ?_; rintro e w' ⟨rfl, rfl⟩))
    go_ret2
    exact ⟨by go_num, Below.refl _ _⟩
  · have hlt : at_ < s.size := by
      rcases Nat.lt_or_ge at_ s.size with h | h
      · exact h
      · rw [restL_nil s at_ h] at hk; simp [kindL] at hk
    have e : skv at_ (meas r (restL s at_)) = .tuple #[.int .i64 ((at_ + 1 : Nat) : Int), .int .i64 0] := by rw [meas_flat _ _ (by omega)]; simp [flat, hk, skv]
    rw [e]
    clear hk hl e
    go_enter Try.func27, Try.ntmps27
    go_wp2_with (first | (go_at_call 19; refine H1.out.mono ?_; rintro e w' ⟨rfl, rfl⟩))
    go_ret2
    exact ⟨by go_num, Below.refl _ _⟩
  · have e : meas r (restL s at_) = ((tkU (restL s at_)).2, 0) := by rw [meas_flat _ _ (by omega)]; simp [flat, hk]
    have HH := readU_any s at_ w hs (by omega)
    rw [e]
    unfold skv
    generalize tkU (restL s at_) = p at HH ⊢
    obtain ⟨n, z⟩ := p
    simp only at HH ⊢
    clear hk hl e
    by_cases hz : z = 0
    · rw [if_pos hz] at HH ⊢
      have H2 := Lib.hid HH; clear HH
      go_enter Try.func27, Try.ntmps27
      go_wp2_with (first | (go_at_call 19; refine H1.out.mono ?_; rintro e w' ⟨rfl, rfl⟩) | (go_at_call 53; refine H2.out.mono ?_; rintro e w' ⟨rfl, hb⟩))
      go_ret2
      exact ⟨rfl, hb⟩
    · rw [if_neg hz] at HH ⊢
      generalize at_ + z = a2 at *
      have H2 := Lib.hid HH; clear HH
      go_enter Try.func27, Try.ntmps27
      go_wp2_with (first | (go_at_call 19; refine H1.out.mono ?_; rintro e w' ⟨rfl, rfl⟩) | (go_at_call 53; refine H2.out.mono ?_; rintro e w' ⟨rfl, hb⟩))
      go_ret2
      exact ⟨rfl, hb⟩
  · have e : meas r (restL s at_) = ((tkS (restL s at_)).2, 0) := by rw [meas_flat _ _ (by omega)]; simp [flat, hk]
    have HH := readS_any s at_ w hs (by omega)
    rw [e]
    unfold skv
    generalize tkS (restL s at_) = p at HH ⊢
    obtain ⟨n, z⟩ := p
    simp only at HH ⊢
    clear hk hl e
    by_cases hz : z = 0
    · rw [if_pos hz] at HH ⊢
      have H2 := Lib.hid HH; clear HH
      go_enter Try.func27, Try.ntmps27
      go_wp2_with (first | (go_at_call 19; refine H1.out.mono ?_; rintro e w' ⟨rfl, rfl⟩) | (go_at_call 54; refine H2.out.mono ?_; rintro e w' ⟨rfl, hb⟩))
      go_ret2
      exact ⟨rfl, hb⟩
    · rw [if_neg hz] at HH ⊢
      generalize at_ + z = a2 at *
      have H2 := Lib.hid HH; clear HH
      go_enter Try.func27, Try.ntmps27
      go_wp2_with (first | (go_at_call 19; refine H1.out.mono ?_; rintro e w' ⟨rfl, rfl⟩) | (go_at_call 54; refine H2.out.mono ?_; rintro e w' ⟨rfl, hb⟩))
      go_ret2
      exact ⟨rfl, hb⟩
  · have e : meas r (restL s at_) = (tkTn (restL s at_), 0) := by rw [meas_flat _ _ (by omega)]; simp [flat, hk]
    have HH := readT_any s at_ w hs
    rw [e]
    unfold skv
    generalize tkTn (restL s at_) = z at HH ⊢
    generalize tkTs (s.extract at_ s.size) = tx at HH
    simp only at HH ⊢
    clear hk hl e
    by_cases hz : z = 0
    · rw [if_pos hz] at HH ⊢
      have H2 := Lib.hid HH; clear HH
      go_enter Try.func27, Try.ntmps27
      go_wp2_with (first | (go_at_call 19; refine H1.out.mono ?_; rintro e w' ⟨rfl, rfl⟩) | (go_at_call 55; refine H2.out.mono ?_; rintro e w' ⟨rfl, hb⟩))
      go_ret2
      exact ⟨rfl, hb⟩
    · rw [if_neg hz] at HH ⊢
      generalize at_ + z = a2 at *
      have H2 := Lib.hid HH; clear HH
      go_enter Try.func27, Try.ntmps27
      go_wp2_with (first | (go_at_call 19; refine H1.out.mono ?_; rintro e w' ⟨rfl, rfl⟩) | (go_at_call 55; refine H2.out.mono ?_; rintro e w' ⟨rfl, hb⟩))
      go_ret2
      exact ⟨rfl, hb⟩
  · exact hl s at_ q w hq h0 h1 hs ha hk

set_option maxHeartbeats 1000000 in
theorem skipRL_0 : SkipsRL 0 := by
  intro s at_ q w hq h0 h1 hs ha hk
  obtain rfl : q = 0 := by omega
  have HK := kindR_any s at_ w hs
  have HH := readH_any s at_ w hs
  have e : skv at_ (meas 0 (restL s at_)) = .tuple #[.int .i64 (-1), .int .i64 0] := by simp [meas, hk, skv]
  rw [e]
  rw [hk] at HK
  generalize tkH (restL s at_) 6 = p at HH
  obtain ⟨n, z⟩ := p
  simp only at HH
  have H1 := Lib.hid HK; clear HK hk e
  by_cases hz : z = 0
  · rw [if_pos hz] at HH
    have H2 := Lib.hid HH; clear HH
    go_enter Try.func27, Try.ntmps27
    go_wp2_with (first | (go_at_call 19; refine H1.out.mono ?_; rintro e w' ⟨rfl, rfl⟩) | (go_at_call 56; refine H2.out.mono ?_; rintro e w' ⟨rfl, hb⟩))
    go_ret2
    exact ⟨rfl, hb⟩
  · rw [if_neg hz] at HH
    have H2 := Lib.hid HH; clear HH
    go_enter Try.func27, Try.ntmps27
    go_wp2_with (first | (go_at_call 19; refine H1.out.mono ?_; rintro e w' ⟨rfl, rfl⟩) | (go_at_call 56; refine H2.out.mono ?_; rintro e w' ⟨rfl, hb⟩))
    go_ret2
    exact ⟨rfl, hb⟩

theorem restL_drop (s : ByteArray) (a z : Nat) : (restL s a).drop z = restL s (a + z) := by
  unfold restL; rw [List.drop_drop]

set_option maxHeartbeats 2000000 in
theorem skipRL_succ (r : Nat) (hr : r < 1000) (ih : SkipsR r) : SkipsRL (r + 1) := by
  intro s at_ q w hq h0 h1 hs ha hk
  have e : meas (r + 1) (restL s at_) = if (tkH (restL s at_) 6).2 = 0 then (0, 0) else measL (meas r) (restL s at_) (tkH (restL s at_) 6).1 (tkH (restL s at_) 6).2 0 := by simp [meas, hk]
  rw [e]
  have HK := kindR_any s at_ w hs
  have HH := readH_any s at_ w hs
  have hb := tkH_size (restL s at_) 6 (by omega)
  rw [restL_length] at hb
  rw [hk] at HK
  generalize tkH (restL s at_) 6 = p at HH hb ⊢
  obtain ⟨n, z⟩ := p
  simp only at HH hb ⊢
  obtain ⟨hb1, hb2, hb3⟩ := hb
  have H1 := Lib.hid HK; clear HK hk e
  have hq' : ((q : Int) == 0) = false := by simp; omega
  have h01 : 1 ≤ q := by omega
  have hq1 := Lib.hid hq; clear hq
  by_cases hz : z = 0
  · rw [if_pos hz] at HH ⊢
    have H2 := Lib.hid HH; clear HH
    unfold skv
    rw [if_pos rfl]
    go_enter Try.func27, Try.ntmps27
    go_wp2_with (first | (go_at_call 19; refine H1.out.mono ?_; rintro e w' ⟨rfl, rfl⟩) | (go_at_call 56; refine H2.out.mono ?_; rintro e w' ⟨rfl, hb⟩))
    go_ret2
    exact ⟨rfl, hb⟩
  · rw [if_neg hz] at HH ⊢
    have H2 := Lib.hid HH; clear HH
    obtain ⟨R, hR⟩ : ∃ R, skv at_ (measL (meas r) (restL s at_) n z 0) = R := ⟨_, rfl⟩
    rw [hR]
    have HR := Lib.hid hR; clear hR
    have hih := Lib.hid ih; clear ih
    go_enter Try.func27, Try.ntmps27
    go_wp2_with (first | (go_at_call 19; refine H1.out.mono ?_; rintro e w' ⟨rfl, rfl⟩) | (go_at_call 56; refine H2.out.mono ?_; rintro e w0 ⟨rfl, hb⟩))
    have HB0 := Lib.hid hb; clear hb
    go_loopw [18, 20, 21] (fun a b i wr => ∃ k z' d' : Nat, k ≤ n ∧ 1 ≤ z' ∧ i = .int .i64 k ∧ a = .int .i64 ((at_ + z' : Nat) : Int) ∧ b = .int .i64 d' ∧ at_ + z' ≤ s.size ∧ d' ≤ 1000 ∧ skv at_ (measL (meas r) (restL s at_) (n - k) z' d') = R ∧ Below w.heap.size w wr) (fun _ _ i _ => n - (intOf i).toNat)
    case atStart => exact ⟨0, z, 0, by omega, by omega, rfl, rfl, rfl, by omega, by omega, HR.out, HB0.out⟩
    case round =>
      obtain ⟨k, z', d', hk, hz0, rfl, rfl, rfl, hz1, hd1, hm, hbw⟩ := hrel
      have HBW := Lib.hid hbw; clear hbw
      by_cases hlt : k < n
      · rw [show n - k = (n - (k + 1)) + 1 by omega] at hm
        unfold measL at hm
        rw [restL_drop] at hm
        have hms := meas_size r (restL s (at_ + z'))
        rw [restL_length] at hms
        have HM := hih.out s (at_ + z') (q - 1) wr (by have := hq1.out; omega) (by omega) (by omega) hs hz1
        generalize meas r (restL s (at_ + z')) = p at hm HM hms
        obtain ⟨y, d2⟩ := p
        unfold skv at HM
        simp only at hm HM hms
        obtain ⟨hy1, hy2⟩ := hms
        have hm' := Lib.hid hm; clear hm
        by_cases hy : y = 0
        · rw [if_pos hy] at HM
          have hm2 := hm'.out
          rw [if_pos hy] at hm2
          unfold skv at hm2
          rw [if_pos rfl] at hm2
          subst hm2
          have HM' := Lib.hid HM; clear HM
          go_wp2_with (first | (go_at_call 27; refine HM'.out.mono ?_; rintro e w' ⟨rfl, hb⟩))
          go_ret2
          exact ⟨rfl, HBW.out.trans (hb.mono HBW.out.size)⟩
        · rw [if_neg hy] at HM
          have hm2 := hm'.out
          rw [if_neg hy] at hm2
          have hm3 := Lib.hid hm2; clear hm2
          have HM' := Lib.hid HM; clear HM
          have hd : decide (((at_ + z' + y : Nat) : Int) < 0) = false := by simp; omega
          go_wp2_with (first | (go_at_call 27; refine HM'.out.mono ?_; rintro e w' ⟨rfl, hb⟩))
          go_roundw
          case rel => exact ⟨k + 1, z' + y, max d' d2, by omega, by omega, by go_num, by go_num, by go_num, by omega, by omega, hm3.out, HBW.out.trans (hb.mono HBW.out.size)⟩
          case measure => simp [intOf]; omega
      · obtain rfl : n = k := by omega
        rw [Nat.sub_self] at hm
        unfold measL at hm
        unfold skv at hm
        rw [if_neg (show ¬ ((z', d' + 1) : Nat × Nat).1 = 0 from fun h => absurd h (by simp only; omega))] at hm
        subst hm
        go_wp2
        go_ret2
        exact ⟨by go_num, HBW.out⟩

theorem skipsR : ∀ r, r ≤ 1000 → SkipsR r
  | 0, _ => skipR_of 0 skipRL_0
  | r + 1, h => skipR_of (r + 1) (skipRL_succ r (by omega) (skipsR r (by omega)))
end Go.Proofs.Ytlhgbnjflemiiaa
