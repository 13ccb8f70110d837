/- The contract of fixed.Text: the text of a number; the world grows. Asked: strconv's table of powers reads as its initialiser lays it. -/
import Derived.Test.YtckbfkkohkmcaaaDoorM
import Derived.Lib.SmallJoins
import Derived.Lib.AppendIntMem
import Derived.Lib.ItoaLen
import Derived.Lib.ItoaMem
namespace Go.Proofs.YtckbfkkohkmcaaaDoor
open Go.RowKit

/-- strconv's table reads as laid -/
def Tab (w : World) : Prop := Lib.TabIs Tryd.prog w "internal/strconv.uint64pow10" .u64 Lib.pow10Tab
theorem Tab.below {w w' : World} (h : Tab w) (hb : Below w.heap.size w w') : Tab w' := Go.Joins.tab_stays (g := 3) (by kernel_rfl) h hb (Nat.le_refl _)

theorem fmt_any (n : Int) (w : World) (h0 : -9223372036854775808 ≤ n) (h1 : n ≤ 9223372036854775807) (ht : Tab w) :
    Calls Tryd.prog 39 #[.int .i64 n, .int .i64 10] w fun e w' => e = .returned (.string ⟨(Lib.itoa n).toArray⟩) ∧ Below w.heap.size w w' := by
  refine (Tryd.strconv_FormatInt_10 n h0 h1 w ht).mono ?_
  rintro e w' ⟨rfl, k, os, rfl⟩
  exact ⟨rfl, Go.Lib.below_grow _ _ (Nat.le_refl _) _ _⟩

/-- what a text is put together of -/
def textOf (neg : Bool) (r : Int) (S1 S3 : ByteArray) : ByteArray :=
  if (r == 0) = true then (if neg = true then ⟨#[45]⟩ else ⟨#[]⟩) ++ S1 else (if neg = true then ⟨#[45]⟩ else ⟨#[]⟩) ++ S1 ++ ⟨#[46]⟩ ++ S3

set_option maxHeartbeats 400000 in
/-- the walk of Text, the pieces given -/
theorem text_walk (n c m q r : Int) (S1 S2 S3 : ByteArray) (neg : Bool) (w : World) (ht : Tab w) (hc : clampI n = c) (hneg : decide (c < 0) = neg) (e1 : neg = true → wrap64 (-c) = m) (e2 : neg = false → c = m) (m1 : 0 ≤ m) (m2 : m ≤ 1000000000000) (hq : m / 1000 = q) (hr : m % 1000 = r) (r1 : 0 ≤ r) (r2 : r < 1000)
    (Hf : ∀ w, Tab w → Calls Tryd.prog 39 #[.int .i64 q, .int .i64 10] w fun e w' => e = .returned (.string S1) ∧ Below w.heap.size w w')
    (Hg : ∀ w, Tab w → Calls Tryd.prog 39 #[.int .i64 (1000 + r), .int .i64 10] w fun e w' => e = .returned (.string S2) ∧ Below w.heap.size w w')
    (Hh : ∀ w, Calls Tryd.prog 40 #[.string (S2.extract 1 S2.size), .string ⟨#[48]⟩] w fun e w' => e = .returned (.string S3) ∧ w' = w)
    (hs : 1 ≤ S2.size) (g1 : ¬ 9223372036854775807 < 1 + S1.size) (g2 : ¬ 9223372036854775807 < 1 + S1.size + 1) (g3 : ¬ 9223372036854775807 < S1.size + 1) (g4 : ¬ 9223372036854775807 < S1.size)
    (g5 : ¬ 9223372036854775807 < S1.size + 1 + S3.size) (g6 : ¬ 9223372036854775807 < 1 + S1.size + 1 + S3.size) :
    Calls Tryd.prog 14 #[.int .i64 n] w fun e w' => e = .returned (.string (textOf neg r S1 S3)) ∧ Below w.heap.size w w' := by
  have HT := Lib.hid ht
  have HF := Lib.hid Hf
  have HG := Lib.hid Hg
  have HH := Lib.hid Hh
  clear ht Hf Hg Hh
  obtain ⟨Z, hZ⟩ : ∃ Z, Z = textOf neg r S1 S3 := ⟨_, rfl⟩
  rw [← hZ]
  by_cases h0 : (r == 0) = true
  · unfold textOf at hZ
    rw [if_pos h0] at hZ
    have HZ := Lib.hid hZ
    clear hZ
    cases neg
    · obtain rfl : c = m := e2 rfl
      clear e1 e2
      go_enter Tryd.func14, Tryd.ntmps14
      go_wp2_with (go_at_call 16; refine (clamp_any _ _).mono ?_; rintro e w' ⟨rfl, rfl⟩)
      refine (HF.out _ HT.out).mono ?_
      rintro e w1 ⟨rfl, hb1⟩
      have Hb1 := Lib.hid hb1
      clear hb1
      go_wp2_with fail
      go_ret
      exact ⟨by rw [HZ.out]; rfl, Hb1.out⟩
    · have e1' := e1 rfl
      clear e1 e2
      go_enter Tryd.func14, Tryd.ntmps14
      go_wp2_with (go_at_call 16; refine (clamp_any _ _).mono ?_; rintro e w' ⟨rfl, rfl⟩)
      refine (HF.out _ HT.out).mono ?_
      rintro e w1 ⟨rfl, hb1⟩
      have Hb1 := Lib.hid hb1
      clear hb1
      go_wp2_with fail
      go_ret
      exact ⟨by rw [HZ.out]; rfl, Hb1.out⟩
  · unfold textOf at hZ
    rw [if_neg h0] at hZ
    have HZ := Lib.hid hZ
    have h0' : (r == 0) = false := by simpa using h0
    clear h0 hZ
    cases neg
    · obtain rfl : c = m := e2 rfl
      clear e1 e2
      go_enter Tryd.func14, Tryd.ntmps14
      go_wp2_with (go_at_call 16; refine (clamp_any _ _).mono ?_; rintro e w' ⟨rfl, rfl⟩)
      refine (HF.out _ HT.out).mono ?_
      rintro e w1 ⟨rfl, hb1⟩
      have Hb1 := Lib.hid hb1
      have HT1 := Lib.hid (HT.out.below hb1)
      clear hb1
      go_wp2_with fail
      refine (HG.out _ HT1.out).mono ?_
      rintro e w2 ⟨rfl, hb2⟩
      have Hb2 := Lib.hid hb2
      clear hb2
      go_wp2_with fail
      refine (HH.out _).mono ?_
      rintro e w3 ⟨rfl, rfl⟩
      go_wp2_with fail
      go_ret
      exact ⟨by rw [HZ.out]; rfl, Hb1.out.trans (Hb2.out.mono Hb1.out.size)⟩
    · have e1' := e1 rfl
      clear e1 e2
      go_enter Tryd.func14, Tryd.ntmps14
      go_wp2_with (go_at_call 16; refine (clamp_any _ _).mono ?_; rintro e w' ⟨rfl, rfl⟩)
      refine (HF.out _ HT.out).mono ?_
      rintro e w1 ⟨rfl, hb1⟩
      have Hb1 := Lib.hid hb1
      have HT1 := Lib.hid (HT.out.below hb1)
      clear hb1
      go_wp2_with fail
      refine (HG.out _ HT1.out).mono ?_
      rintro e w2 ⟨rfl, hb2⟩
      have Hb2 := Lib.hid hb2
      clear hb2
      go_wp2_with fail
      refine (HH.out _).mono ?_
      rintro e w3 ⟨rfl, rfl⟩
      go_wp2_with fail
      go_ret
      exact ⟨by rw [HZ.out]; rfl, Hb1.out.trans (Hb2.out.mono Hb1.out.size)⟩

def bs (l : List UInt8) : ByteArray := ⟨l.toArray⟩
theorem bs_size (l : List UInt8) : (bs l).size = l.length := by unfold bs; exact List.size_toArray
theorem bs_data (l : List UInt8) : (bs l).data.toList = l := rfl

/-- the text of a number -/
def textB (n : Int) : ByteArray := textOf (decide (clampI n < 0)) (((clampI n).natAbs : Int) % 1000) (bs (Lib.itoa (((clampI n).natAbs : Int) / 1000))) (bs (Lib.trimRightB ((Lib.itoa (1000 + ((clampI n).natAbs : Int) % 1000)).drop 1) 48))

theorem trimRightB_le (l : List UInt8) (c : UInt8) : (Lib.trimRightB l c).length ≤ l.length := by
  unfold Lib.trimRightB
  rw [List.length_reverse]
  exact Nat.le_trans (List.dropWhile_sublist _).length_le (by rw [List.length_reverse]; exact Nat.le_refl _)

theorem text_any (n : Int) (w : World) (ht : Tab w) :
    Calls Tryd.prog 14 #[.int .i64 n] w fun e w' => e = .returned (.string (textB n)) ∧ Below w.heap.size w w' := by
  have r0 := clampI_range n
  have hq1 := Lib.itoa_length_le (((clampI n).natAbs : Int) / 1000) (by omega) (by omega)
  have hq2 := Lib.itoa_length_le (1000 + ((clampI n).natAbs : Int) % 1000) (by omega) (by omega)
  have hq3 := trimRightB_le ((Lib.itoa (1000 + ((clampI n).natAbs : Int) % 1000)).drop 1) 48
  have hq4 : 1 ≤ (Lib.itoa (1000 + ((clampI n).natAbs : Int) % 1000)).length := by
    have e : 1000 + ((clampI n).natAbs : Int) % 1000 = ((1000 + (clampI n).natAbs % 1000 : Nat) : Int) := by omega
    rw [e, Lib.itoa_nonneg, Lib.decDigits_length]
    exact Lib.nDigits_pos _
  rw [List.length_drop] at hq3
  have s1 := bs_size (Lib.itoa (((clampI n).natAbs : Int) / 1000))
  have s2 := bs_size (Lib.itoa (1000 + ((clampI n).natAbs : Int) % 1000))
  have s3 := bs_size (Lib.trimRightB ((Lib.itoa (1000 + ((clampI n).natAbs : Int) % 1000)).drop 1) 48)
  unfold textB
  refine text_walk n (clampI n) ((clampI n).natAbs : Int) _ _ _ (bs (Lib.itoa (1000 + ((clampI n).natAbs : Int) % 1000))) _ _ w ht rfl rfl (fun h => ?_) (fun h => ?_) (by omega) (by omega) rfl rfl (by omega) (by omega)
    (fun w ht => fmt_any _ w (by omega) (by omega) ht) (fun w ht => fmt_any _ w (by omega) (by omega) ht) (fun w => ?_) (by omega) (by omega) (by omega) (by omega) (by omega) (by omega) (by omega)
  · have := of_decide_eq_true h
    unfold wrap64; omega
  · have := of_decide_eq_false h
    omega
  · have h := Tryd.strings_TrimRight_one ((bs (Lib.itoa (1000 + ((clampI n).natAbs : Int) % 1000))).extract 1 (bs (Lib.itoa (1000 + ((clampI n).natAbs : Int) % 1000))).size) 48 (by decide) w (by
      have := congrArg List.length (Lib.extract_to_end (bs (Lib.itoa (1000 + ((clampI n).natAbs : Int) % 1000))) 1)
      rw [List.length_drop, bs_data, ← Lib.size_eq] at this
      omega)
    rw [Lib.extract_to_end, bs_data] at h
    exact h
end Go.Proofs.YtckbfkkohkmcaaaDoor
