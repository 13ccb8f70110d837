/- Contracts of the specification's functions on texts: Round refusing, Text. -/
import Derived.Test.YtckbfkkohkmcaaaDoorA
namespace Go.Proofs.YtckbfkkohkmcaaaDoor
open Go.RowKit

set_option maxHeartbeats 400000 in
theorem rround_out (n d : Int) (w : World) (hd : d < 0 ∨ 3 < d) :
    Calls Tryd.prog 11 #[.int .i64 n, .int .i64 d] w fun e w' => e = .returned (.tuple #[.int .i64 0, .int .i64 1]) ∧ w = w' := by
  by_cases h : d < 0
  · have t0 : decide (d < 0) = true := decide_eq_true h
    clear hd
    go_enter Tryd.func11, Tryd.ntmps11
    go_wp2_with fail
    go_ret2
    exact ⟨rfl, rfl⟩
  · have t0 : decide (d < 0) = false := decide_eq_false h
    have t1 : decide (3 < d) = true := by rw [decide_eq_true_eq]; omega
    clear hd
    go_enter Tryd.func11, Tryd.ntmps11
    go_wp2_with fail
    go_ret2
    exact ⟨rfl, rfl⟩

/-! Text -/
theorem trim_snoc (l : List UInt8) (x c : UInt8) : Lib.trimRightB (l ++ [x]) c = if x = c then Lib.trimRightB l c else l ++ [x] := by
  unfold Lib.trimRightB
  rw [List.reverse_append, List.reverse_singleton, List.singleton_append]
  by_cases h : x = c
  · rw [if_pos h, List.dropWhile_cons_of_pos (by simp [h])]
  · rw [if_neg h, List.dropWhile_cons_of_neg (by simp [h]), List.reverse_cons, List.reverse_reverse]

/-- what the specification's loop keeps: a text that trims to this one -/
def TrimsTo (T : List UInt8) (Q : ByteArray) : Prop := Q.size ≤ 100 ∧ T ≠ [] ∧ Lib.trimRightB Q.data.toList 48 = T
theorem TrimsTo.pos {T : List UInt8} {Q : ByteArray} (h : TrimsTo T Q) : 1 ≤ Q.size := by
  obtain ⟨_, h2, h3⟩ := h
  rcases Nat.eq_zero_or_pos Q.size with h0 | h0
  · rw [Lib.size_eq, List.length_eq_zero_iff] at h0
    rw [h0] at h3
    exact absurd h3.symm h2
  · exact h0
theorem TrimsTo.split {T : List UInt8} {Q : ByteArray} (h : TrimsTo T Q) : ∃ hl : Q.size - 1 < Q.size, Q.data.toList = Q.data.toList.take (Q.size - 1) ++ [Q[Q.size - 1]] := by
  have hp := h.pos
  refine ⟨by omega, ?_⟩
  rw [← take_snoc Q (Q.size - 1) (by omega), show Q.size - 1 + 1 = Q.size by omega, List.take_of_length_le (by rw [← Lib.size_eq]; exact Nat.le_refl _)]
theorem TrimsTo.step {T : List UInt8} {Q : ByteArray} (h : TrimsTo T Q) (hl : Q.size - 1 < Q.size) (h48 : (Q[Q.size - 1]).toNat = 48) : TrimsTo T (Q.extract 0 (Q.size - 1)) := by
  obtain ⟨_, e⟩ := h.split
  obtain ⟨h1, h2, h3⟩ := h
  have hx : Q[Q.size - 1] = 48 := UInt8.toNat_inj.1 h48
  rw [e, trim_snoc, if_pos hx] at h3
  have hd : (Q.extract 0 (Q.size - 1)).data.toList = Q.data.toList.take (Q.size - 1) := by rw [Lib.extract_data]; simp
  refine ⟨?_, h2, by rw [hd]; exact h3⟩
  rw [Lib.size_eq, hd, List.length_take]; omega
theorem TrimsTo.last {T : List UInt8} {Q : ByteArray} (h : TrimsTo T Q) (hl : Q.size - 1 < Q.size) (h48 : ¬ (Q[Q.size - 1]).toNat = 48) : Q = bs T := by
  obtain ⟨_, e⟩ := h.split
  obtain ⟨h1, h2, h3⟩ := h
  have hx : ¬ Q[Q.size - 1] = 48 := fun he => h48 (by rw [he]; rfl)
  rw [e, trim_snoc, if_neg hx, ← e] at h3
  rw [← h3]; rfl

/-- the size of a text -/
def strSize : Value → Nat
  | .string s => s.size
  | _ => 0

set_option maxHeartbeats 1000000 in
/-- the walk of the specification's Text, the pieces given -/
theorem rtext_walk (n c m q r : Int) (S1 S2 : ByteArray) (T : List UInt8) (neg : Bool) (w : World) (ht : Tab w) (hc : clampI n = c) (hneg : decide (c < 0) = neg) (e1 : neg = true → wrap64 (-c) = m) (e2 : neg = false → c = m) (m1 : 0 ≤ m) (m2 : m ≤ 1000000000000) (hq : m / 1000 = q) (hr : m % 1000 = r) (r1 : 0 ≤ r) (r2 : r < 1000)
    (Hf : ∀ w, Tab w → Calls Tryd.prog 39 #[.int .i64 q, .int .i64 10] w fun e w' => e = .returned (.string S1) ∧ Below w.heap.size w w')
    (Hg : ∀ w, Tab w → Calls Tryd.prog 39 #[.int .i64 (1000 + r), .int .i64 10] w fun e w' => e = .returned (.string S2) ∧ Below w.heap.size w w')
    (Hh : ¬ r = 0 → TrimsTo T (S2.extract 1 S2.size)) (hT : T.length ≤ 100)
    (hs : 1 ≤ S2.size) (g0 : S1.size ≤ 100) :
    Calls Tryd.prog 15 #[.int .i64 n] w fun e w' => e = .returned (.string (textOf neg r S1 (bs T))) ∧ Below w.heap.size w w' := by
  have g1 : ¬ 9223372036854775807 < 1 + S1.size := by omega
  have g2 : ¬ 9223372036854775807 < 1 + S1.size + 1 := by omega
  have g3 : ¬ 9223372036854775807 < S1.size + 1 := by omega
  have g4 : ¬ 9223372036854775807 < S1.size := by omega
  have g7 : (bs T).size ≤ 100 := by rw [bs_size]; exact hT
  have g5 : ¬ 9223372036854775807 < S1.size + 1 + (bs T).size := by omega
  have g6 : ¬ 9223372036854775807 < 1 + S1.size + 1 + (bs T).size := by omega
  clear hT g0 g7
  have HT := Lib.hid ht
  have HF := Lib.hid Hf
  have HG := Lib.hid Hg
  have HH := Lib.hid Hh
  clear ht Hf Hg Hh
  obtain ⟨Z, hZ⟩ : ∃ Z, Z = textOf neg r S1 (bs T) := ⟨_, rfl⟩
  rw [← hZ]
  by_cases h0 : (r == 0) = true
  · unfold textOf at hZ
    rw [if_pos h0] at hZ
    have HZ := Lib.hid hZ
    clear hZ
    cases neg
    · obtain rfl : c = m := e2 rfl
      clear e1 e2
      go_enter Tryd.func15, Tryd.ntmps15
      go_wp2_with (go_at_call 28; refine (rclamp_any _ _).mono ?_; rintro e w' ⟨rfl, rfl⟩)
      refine (HF.out _ HT.out).mono ?_
      rintro e w1 ⟨rfl, hb1⟩
      have Hb1 := Lib.hid hb1
      clear hb1
      go_wp2_with fail
      go_ret
      exact ⟨by rw [HZ.out]; rfl, Hb1.out⟩
    · have e1' := e1 rfl
      clear e1 e2
      go_enter Tryd.func15, Tryd.ntmps15
      go_wp2_with (go_at_call 28; refine (rclamp_any _ _).mono ?_; rintro e w' ⟨rfl, rfl⟩)
      refine (HF.out _ HT.out).mono ?_
      rintro e w1 ⟨rfl, hb1⟩
      have Hb1 := Lib.hid hb1
      clear hb1
      go_wp2_with fail
      go_ret
      exact ⟨by rw [HZ.out]; rfl, Hb1.out⟩
  · unfold textOf at hZ
    rw [if_neg h0] at hZ
    have HZ := Lib.hid hZ
    have h0' : (r == 0) = false := by simpa using h0
    have HI := Lib.hid (HH.out (by simpa using h0))
    clear h0 hZ HH
    cases neg
    · obtain rfl : c = m := e2 rfl
      clear e1 e2
      go_enter Tryd.func15, Tryd.ntmps15
      go_wp2_with (go_at_call 28; refine (rclamp_any _ _).mono ?_; rintro e w' ⟨rfl, rfl⟩)
      refine (HF.out _ HT.out).mono ?_
      rintro e w1 ⟨rfl, hb1⟩
      have Hb1 := Lib.hid hb1
      have HT1 := Lib.hid (HT.out.below hb1)
      clear hb1
      go_wp2_with fail
      refine (HG.out _ HT1.out).mono ?_
      rintro e w2 ⟨rfl, hb2⟩
      have Hb2 := Lib.hid hb2
      clear hb2
      go_wp2_with fail
      go_loop [4] (fun p => ∃ Q, p = .string Q ∧ TrimsTo T Q) (fun p => strSize p)
      case atStart => exact ⟨_, rfl, HI.out⟩
      case round =>
        obtain ⟨Q, rfl, hQ⟩ := hrel
        have q1 := hQ.pos
        have q2 := hQ.1
        have hl : Q.size - 1 < Q.size := by omega
        have HQ := Lib.hid hQ
        clear hQ
        by_cases h48 : (Q[Q.size - 1]).toNat = 48
        · go_wp2_with fail
          go_round
          case rel => exact ⟨_, rfl, HQ.out.step hl h48⟩
          case measure => show (Q.extract 0 (Q.size - 1)).size < Q.size; rw [ByteArray.size_extract]; omega
        · obtain rfl := HQ.out.last hl h48
          go_wp2_with fail
          go_ret
          exact ⟨by rw [HZ.out]; rfl, Hb1.out.trans (Hb2.out.mono Hb1.out.size)⟩
    · have e1' := e1 rfl
      clear e1 e2
      go_enter Tryd.func15, Tryd.ntmps15
      go_wp2_with (go_at_call 28; refine (rclamp_any _ _).mono ?_; rintro e w' ⟨rfl, rfl⟩)
      refine (HF.out _ HT.out).mono ?_
      rintro e w1 ⟨rfl, hb1⟩
      have Hb1 := Lib.hid hb1
      have HT1 := Lib.hid (HT.out.below hb1)
      clear hb1
      go_wp2_with fail
      refine (HG.out _ HT1.out).mono ?_
      rintro e w2 ⟨rfl, hb2⟩
      have Hb2 := Lib.hid hb2
      clear hb2
      go_wp2_with fail
      go_loop [4] (fun p => ∃ Q, p = .string Q ∧ TrimsTo T Q) (fun p => strSize p)
      case atStart => exact ⟨_, rfl, HI.out⟩
      case round =>
        obtain ⟨Q, rfl, hQ⟩ := hrel
        have q1 := hQ.pos
        have q2 := hQ.1
        have hl : Q.size - 1 < Q.size := by omega
        have HQ := Lib.hid hQ
        clear hQ
        by_cases h48 : (Q[Q.size - 1]).toNat = 48
        · go_wp2_with fail
          go_round
          case rel => exact ⟨_, rfl, HQ.out.step hl h48⟩
          case measure => show (Q.extract 0 (Q.size - 1)).size < Q.size; rw [ByteArray.size_extract]; omega
        · obtain rfl := HQ.out.last hl h48
          go_wp2_with fail
          go_ret
          exact ⟨by rw [HZ.out]; rfl, Hb1.out.trans (Hb2.out.mono Hb1.out.size)⟩

theorem rtext_any (n : Int) (w : World) (ht : Tab w) :
    Calls Tryd.prog 15 #[.int .i64 n] w fun e w' => e = .returned (.string (textB n)) ∧ Below w.heap.size w w' := by
  have r0 := clampI_range n
  have hq1 := Lib.itoa_length_le (((clampI n).natAbs : Int) / 1000) (by omega) (by omega)
  have hq2 := Lib.itoa_length_le (1000 + ((clampI n).natAbs : Int) % 1000) (by omega) (by omega)
  have hq3 := trimRightB_le ((Lib.itoa (1000 + ((clampI n).natAbs : Int) % 1000)).drop 1) 48
  have e : 1000 + ((clampI n).natAbs : Int) % 1000 = ((1000 + (clampI n).natAbs % 1000 : Nat) : Int) := by omega
  have hq4 : 1 ≤ (Lib.itoa (1000 + ((clampI n).natAbs : Int) % 1000)).length := by
    rw [e, Lib.itoa_nonneg, Lib.decDigits_length]
    exact Lib.nDigits_pos _
  rw [List.length_drop] at hq3
  have s1 := bs_size (Lib.itoa (((clampI n).natAbs : Int) / 1000))
  have s2 := bs_size (Lib.itoa (1000 + ((clampI n).natAbs : Int) % 1000))
  unfold textB
  refine rtext_walk n (clampI n) ((clampI n).natAbs : Int) _ _ _ (bs (Lib.itoa (1000 + ((clampI n).natAbs : Int) % 1000))) _ _ w ht rfl rfl (fun h => ?_) (fun h => ?_) (by omega) (by omega) rfl rfl (by omega) (by omega)
    (fun w ht => fmt_any _ w (by omega) (by omega) ht) (fun w ht => fmt_any _ w (by omega) (by omega) ht) (fun hr => ?_) (by omega) (by omega) (by omega)
  · have := of_decide_eq_true h
    unfold wrap64; omega
  · have := of_decide_eq_false h
    omega
  · have hx := Lib.extract_to_end (bs (Lib.itoa (1000 + ((clampI n).natAbs : Int) % 1000))) 1
    rw [bs_data] at hx
    refine ⟨?_, ?_, by rw [hx]⟩
    · rw [Lib.size_eq, hx, List.length_drop]; omega
    · have hr' : (clampI n).natAbs % 1000 ≠ 0 := by omega
      obtain ⟨m, hm⟩ : ∃ m, m = (clampI n).natAbs % 1000 := ⟨_, rfl⟩
      rw [e, Lib.itoa_nonneg, ← hm, dec_frac m (by omega), trim3]
      rw [← hm] at hr'
      have eq48 : ∀ k : Nat, k < 10 → UInt8.ofNat (48 + k) = 48 → k = 0 := by
        intro k hk h
        have := congrArg UInt8.toNat h
        rw [dig_nat k hk] at this
        change 48 + k = 48 at this
        omega
      split
      · simp
      · rename_i h1
        split
        · simp
        · rename_i h2
          split
          · simp
          · rename_i h3
            have a1 := eq48 _ (by omega) (Classical.not_not.1 h1)
            have a2 := eq48 _ (by omega) (Classical.not_not.1 h2)
            have a3 := eq48 _ (by omega) (Classical.not_not.1 h3)
            omega
end Go.Proofs.YtckbfkkohkmcaaaDoor
