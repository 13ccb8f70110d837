/- Contracts of fixed.Text and civil.Clock (after XT of wip/tpl, XF of wip/tplciv). Asked: strconv's table of powers reads as laid. -/
import Derived.Test.YtaaaddmdcldclaaGreatDoorNr
import Derived.Lib.SmallJoins
import Derived.Lib.AppendIntMem
import Derived.Lib.ItoaLen
import Derived.Lib.ItoaMem
import Derived.Shelf.Strings.SlTrimAscii
namespace Go.Proofs.YtaaaddmdcldclaaGreatDoor
open Go.RowKit

/-- strconv's table reads as laid -/
def Tab (w : World) : Prop := Lib.TabIs Tryz.prog w "internal/strconv.uint64pow10" .u64 Lib.pow10Tab
theorem Tab.below {w w' : World} (h : Tab w) (hb : Below w.heap.size w w') : Tab w' := Go.Joins.tab_stays (g := 3) (by kernel_rfl) h hb (Nat.le_refl _)
namespace Fx
def clampI (n : Int) : Int := min (max n (-1000000000000)) 1000000000000
theorem clampI_range (n : Int) : -1000000000000 ≤ clampI n ∧ clampI n ≤ 1000000000000 := by unfold clampI; omega
theorem clampI_in (n : Int) (h1 : -1000000000000 ≤ n) (h2 : n ≤ 1000000000000) : clampI n = n := by unfold clampI; omega
theorem clamp_any (n : Int) (w : World) :
    Calls Tryz.prog 79 #[.int .i64 n] w fun e w' => e = .returned (.int .i64 (clampI n)) ∧ w = w' := by
  go_enter Tryz.func79, Tryz.ntmps79
  go_wp2
  go_ret
  exact ⟨rfl, rfl⟩

theorem fmt_any (n : Int) (w : World) (h0 : -9223372036854775808 ≤ n) (h1 : n ≤ 9223372036854775807) (ht : Tab w) :
    Calls Tryz.prog 80 #[.int .i64 n, .int .i64 10] w fun e w' => e = .returned (.string ⟨(Lib.itoa n).toArray⟩) ∧ Below w.heap.size w w' := by
  refine (Tryz.strconv_FormatInt_10 n h0 h1 w ht).mono ?_
  rintro e w' ⟨rfl, k, os, rfl⟩
  exact ⟨rfl, Go.Lib.below_grow _ _ (Nat.le_refl _) _ _⟩

/-- what a text is put together of -/
def textOf (neg : Bool) (r : Int) (S1 S3 : ByteArray) : ByteArray :=
  if (r == 0) = true then (if neg = true then ⟨#[45]⟩ else ⟨#[]⟩) ++ S1 else (if neg = true then ⟨#[45]⟩ else ⟨#[]⟩) ++ S1 ++ ⟨#[46]⟩ ++ S3

set_option maxHeartbeats 400000 in
/-- the walk of Text, the pieces given -/
theorem text_walk (n c m q r : Int) (S1 S2 S3 : ByteArray) (neg : Bool) (w : World) (ht : Tab w) (hc : clampI n = c) (hneg : decide (c < 0) = neg) (e1 : neg = true → wrap64 (-c) = m) (e2 : neg = false → c = m) (m1 : 0 ≤ m) (m2 : m ≤ 1000000000000) (hq : m / 1000 = q) (hr : m % 1000 = r) (r1 : 0 ≤ r) (r2 : r < 1000)
    (Hf : ∀ w, Tab w → Calls Tryz.prog 80 #[.int .i64 q, .int .i64 10] w fun e w' => e = .returned (.string S1) ∧ Below w.heap.size w w')
    (Hg : ∀ w, Tab w → Calls Tryz.prog 80 #[.int .i64 (1000 + r), .int .i64 10] w fun e w' => e = .returned (.string S2) ∧ Below w.heap.size w w')
    (Hh : ∀ w, Calls Tryz.prog 81 #[.string (S2.extract 1 S2.size), .string ⟨#[48]⟩] w fun e w' => e = .returned (.string S3) ∧ w' = w)
    (hs : 1 ≤ S2.size) (g1 : ¬ 9223372036854775807 < 1 + S1.size) (g2 : ¬ 9223372036854775807 < 1 + S1.size + 1) (g3 : ¬ 9223372036854775807 < S1.size + 1) (g4 : ¬ 9223372036854775807 < S1.size)
    (g5 : ¬ 9223372036854775807 < S1.size + 1 + S3.size) (g6 : ¬ 9223372036854775807 < 1 + S1.size + 1 + S3.size) :
    Calls Tryz.prog 63 #[.int .i64 n] w fun e w' => e = .returned (.string (textOf neg r S1 S3)) ∧ Below w.heap.size w w' := by
  have HT := Lib.hid ht
  have HF := Lib.hid Hf
  have HG := Lib.hid Hg
  have HH := Lib.hid Hh
  clear ht Hf Hg Hh
  obtain ⟨Z, hZ⟩ : ∃ Z, Z = textOf neg r S1 S3 := ⟨_, rfl⟩
  rw [← hZ]
  by_cases h0 : (r == 0) = true
  · unfold textOf at hZ
    rw [if_pos h0] at hZ
    have HZ := Lib.hid hZ
    clear hZ
    cases neg
    · obtain rfl : c = m := e2 rfl
      clear e1 e2
      go_enter Tryz.func63, Tryz.ntmps63
      go_wp2_with (go_at_call 79; refine (clamp_any _ _).mono ?_; rintro e w' ⟨rfl, rfl⟩)
      refine (HF.out _ HT.out).mono ?_
      rintro e w1 ⟨rfl, hb1⟩
      have Hb1 := Lib.hid hb1
      clear hb1
      go_wp2_with fail
      go_ret
      exact ⟨by rw [HZ.out]; rfl, Hb1.out⟩
    · have e1' := e1 rfl
      clear e1 e2
      go_enter Tryz.func63, Tryz.ntmps63
      go_wp2_with (go_at_call 79; refine (clamp_any _ _).mono ?_; rintro e w' ⟨rfl, rfl⟩)
      refine (HF.out _ HT.out).mono ?_
      rintro e w1 ⟨rfl, hb1⟩
      have Hb1 := Lib.hid hb1
      clear hb1
      go_wp2_with fail
      go_ret
      exact ⟨by rw [HZ.out]; rfl, Hb1.out⟩
  · unfold textOf at hZ
    rw [if_neg h0] at hZ
    have HZ := Lib.hid hZ
    have h0' : (r == 0) = false := by simpa using h0
    clear h0 hZ
    cases neg
    · obtain rfl : c = m := e2 rfl
      clear e1 e2
      go_enter Tryz.func63, Tryz.ntmps63
      go_wp2_with (go_at_call 79; refine (clamp_any _ _).mono ?_; rintro e w' ⟨rfl, rfl⟩)
      refine (HF.out _ HT.out).mono ?_
      rintro e w1 ⟨rfl, hb1⟩
      have Hb1 := Lib.hid hb1
      have HT1 := Lib.hid (HT.out.below hb1)
      clear hb1
      go_wp2_with fail
      refine (HG.out _ HT1.out).mono ?_
      rintro e w2 ⟨rfl, hb2⟩
      have Hb2 := Lib.hid hb2
      clear hb2
      go_wp2_with fail
      refine (HH.out _).mono ?_
      rintro e w3 ⟨rfl, rfl⟩
      go_wp2_with fail
      go_ret
      exact ⟨by rw [HZ.out]; rfl, Hb1.out.trans (Hb2.out.mono Hb1.out.size)⟩
    · have e1' := e1 rfl
      clear e1 e2
      go_enter Tryz.func63, Tryz.ntmps63
      go_wp2_with (go_at_call 79; refine (clamp_any _ _).mono ?_; rintro e w' ⟨rfl, rfl⟩)
      refine (HF.out _ HT.out).mono ?_
      rintro e w1 ⟨rfl, hb1⟩
      have Hb1 := Lib.hid hb1
      have HT1 := Lib.hid (HT.out.below hb1)
      clear hb1
      go_wp2_with fail
      refine (HG.out _ HT1.out).mono ?_
      rintro e w2 ⟨rfl, hb2⟩
      have Hb2 := Lib.hid hb2
      clear hb2
      go_wp2_with fail
      refine (HH.out _).mono ?_
      rintro e w3 ⟨rfl, rfl⟩
      go_wp2_with fail
      go_ret
      exact ⟨by rw [HZ.out]; rfl, Hb1.out.trans (Hb2.out.mono Hb1.out.size)⟩

/-- the text of a number -/
def textB (n : Int) : ByteArray := textOf (decide (clampI n < 0)) (((clampI n).natAbs : Int) % 1000) (bs (Lib.itoa (((clampI n).natAbs : Int) / 1000))) (bs (Lib.trimRightB ((Lib.itoa (1000 + ((clampI n).natAbs : Int) % 1000)).drop 1) 48))

theorem trimRightB_le (l : List UInt8) (c : UInt8) : (Lib.trimRightB l c).length ≤ l.length := by
  unfold Lib.trimRightB
  rw [List.length_reverse]
  exact Nat.le_trans (List.dropWhile_sublist _).length_le (by rw [List.length_reverse]; exact Nat.le_refl _)

theorem text_any (n : Int) (w : World) (ht : Tab w) :
    Calls Tryz.prog 63 #[.int .i64 n] w fun e w' => e = .returned (.string (textB n)) ∧ Below w.heap.size w w' := by
  have r0 := clampI_range n
  have hq1 := Lib.itoa_length_le (((clampI n).natAbs : Int) / 1000) (by omega) (by omega)
  have hq2 := Lib.itoa_length_le (1000 + ((clampI n).natAbs : Int) % 1000) (by omega) (by omega)
  have hq3 := trimRightB_le ((Lib.itoa (1000 + ((clampI n).natAbs : Int) % 1000)).drop 1) 48
  have hq4 : 1 ≤ (Lib.itoa (1000 + ((clampI n).natAbs : Int) % 1000)).length := by
    have e : 1000 + ((clampI n).natAbs : Int) % 1000 = ((1000 + (clampI n).natAbs % 1000 : Nat) : Int) := by omega
    rw [e, Lib.itoa_nonneg, Lib.decDigits_length]
    exact Lib.nDigits_pos _
  rw [List.length_drop] at hq3
  have s1 := bs_size (Lib.itoa (((clampI n).natAbs : Int) / 1000))
  have s2 := bs_size (Lib.itoa (1000 + ((clampI n).natAbs : Int) % 1000))
  have s3 := bs_size (Lib.trimRightB ((Lib.itoa (1000 + ((clampI n).natAbs : Int) % 1000)).drop 1) 48)
  unfold textB
  refine text_walk n (clampI n) ((clampI n).natAbs : Int) _ _ _ (bs (Lib.itoa (1000 + ((clampI n).natAbs : Int) % 1000))) _ _ w ht rfl rfl (fun h => ?_) (fun h => ?_) (by omega) (by omega) rfl rfl (by omega) (by omega)
    (fun w ht => fmt_any _ w (by omega) (by omega) ht) (fun w ht => fmt_any _ w (by omega) (by omega) ht) (fun w => ?_) (by omega) (by omega) (by omega) (by omega) (by omega) (by omega) (by omega)
  · have := of_decide_eq_true h
    unfold wrap64; omega
  · have := of_decide_eq_false h
    omega
  · have h := Tryz.strings_TrimRight_one ((bs (Lib.itoa (1000 + ((clampI n).natAbs : Int) % 1000))).extract 1 (bs (Lib.itoa (1000 + ((clampI n).natAbs : Int) % 1000))).size) 48 (by decide) w (by
      have := congrArg List.length (Lib.extract_to_end (bs (Lib.itoa (1000 + ((clampI n).natAbs : Int) % 1000))) 1)
      rw [List.length_drop, bs_data, ← Lib.size_eq] at this
      omega)
    rw [Lib.extract_to_end, bs_data] at h
    exact h
end Fx
namespace Cv
theorem itoa_any (n : Int) (w : World) (h0 : -9223372036854775808 ≤ n) (h1 : n ≤ 9223372036854775807) (ht : Tab w) :
    Calls Tryz.prog 100 #[.int .i64 n] w fun e w' => e = .returned (.string ⟨(Lib.itoa n).toArray⟩) ∧ Below w.heap.size w w' := by
  refine (Tryz.strconv_Itoa n h0 h1 w ht).mono ?_
  rintro e w' ⟨rfl, k, os, rfl⟩
  exact ⟨rfl, Go.Lib.below_grow _ _ (Nat.le_refl _) _ _⟩

theorem bs_eta (s : ByteArray) : bs s.data.toList = s := rfl
theorem bytes_ext {a b : ByteArray} (h : a.data.toList = b.data.toList) : a = b := by obtain ⟨⟨l⟩⟩ := a; obtain ⟨⟨m⟩⟩ := b; exact congrArg (fun l => ByteArray.mk (Array.mk l)) h
theorem bs_append (l m : List UInt8) : bs l ++ bs m = bs (l ++ m) := by
  refine bytes_ext ?_
  rw [ByteArray.data_append]; simp [bs]

/-- a digit -/
def dgt (n : Nat) : UInt8 := UInt8.ofNat (48 + n % 10)
/-- the last two digits -/
def two (n : Int) : List UInt8 := [dgt (n.toNat / 10), dgt n.toNat]
theorem dec_step (u : Nat) (h : ¬ u < 10) : Lib.decDigits u = Lib.decDigits (u / 10) ++ [dgt u] := by rw [Lib.decDigits, dif_neg h]; rfl
theorem dec_small (u : Nat) (h : u < 10) : Lib.decDigits u = [dgt u] := by rw [Lib.decDigits_one h]; unfold dgt; rw [Nat.mod_eq_of_lt h]
theorem dec_hundred (u : Nat) (h : u < 100) : Lib.decDigits (100 + u) = [49, dgt (u / 10), dgt u] := by
  rw [dec_step _ (by omega), dec_step _ (by omega), dec_small _ (by omega)]
  have e1 : (100 + u) / 10 / 10 = 1 := by omega
  have e2 : dgt ((100 + u) / 10) = dgt (u / 10) := by unfold dgt; rw [show (100 + u) / 10 % 10 = u / 10 % 10 by omega]
  have e3 : dgt (100 + u) = dgt u := by unfold dgt; rw [show (100 + u) % 10 = u % 10 by omega]
  rw [e1, e2, e3]; rfl
theorem dec_four (u : Nat) (h1 : 1000 ≤ u) (h2 : u < 10000) : Lib.decDigits u = [dgt (u / 1000), dgt (u / 100), dgt (u / 10), dgt u] := by
  rw [dec_step _ (by omega), dec_step _ (by omega), dec_step _ (by omega), dec_small _ (by omega)]
  have e1 : u / 10 / 10 / 10 = u / 1000 := by omega
  have e2 : u / 10 / 10 = u / 100 := by omega
  rw [e1, e2]; rfl

set_option maxHeartbeats 400000 in
theorem twoDigits_any (n : Int) (w : World) (h0 : 0 ≤ n) (h1 : n < 100) (ht : Tab w) :
    Calls Tryz.prog 83 #[.int .i64 n] w fun e w' => e = .returned (.string (bs (two n))) ∧ Below w.heap.size w w' := by
  have HI := itoa_any (100 + n) w (by omega) (by omega) ht
  have e : Lib.itoa (100 + n) = 49 :: two n := by
    rw [show 100 + n = ((100 + n.toNat : Nat) : Int) by omega, Lib.itoa_nonneg, dec_hundred _ (by omega)]; rfl
  rw [e] at HI
  have hs : (⟨(49 :: two n).toArray⟩ : ByteArray).size = 3 := rfl
  have he : (⟨(49 :: two n).toArray⟩ : ByteArray).extract 1 3 = bs (two n) := by
    refine bytes_ext ?_
    rw [Lib.extract_data]; rfl
  obtain ⟨S, hS⟩ : ∃ S, S = (⟨(49 :: two n).toArray⟩ : ByteArray) := ⟨_, rfl⟩
  rw [← hS] at HI hs he
  obtain ⟨T, hT⟩ : ∃ T, T = bs (two n) := ⟨_, rfl⟩
  rw [← hT] at he ⊢
  have HI := Lib.hid HI
  clear hS hT e ht
  go_enter Tryz.func83, Tryz.ntmps83
  go_wp2_with fail
  refine HI.out.mono ?_
  rintro e w1 ⟨rfl, hb⟩
  go_wp2_with fail
  go_ret
  exact ⟨rfl, hb⟩

def clockL (n : Int) : List UInt8 := two (n / 60) ++ [58] ++ two (n % 60)
theorem two_len (n : Int) : (two n).length = 2 := rfl
theorem checkMinute_any (d : Int) (w : World) :
    Calls Tryz.prog 82 #[.int .i64 d] w fun e w' => e = .returned (.int .i64 (if 0 ≤ d ∧ d < 1440 then 0 else 6)) ∧ w = w' := by
  go_enter Tryz.func82, Tryz.ntmps82
  go_wp2
  all_goals
    go_ret
    refine ⟨ret_int ?_, rfl⟩
    first | rfl | (rw [if_pos (by omega)]) | (rw [if_neg (by omega)])
set_option maxHeartbeats 1000000 in
theorem clock_yes (n : Int) (w : World) (h0 : 0 ≤ n) (h1 : n < 1440) (ht : Tab w) :
    Calls Tryz.prog 64 #[.int .i64 n] w fun e w' => e = .returned (.tuple #[.string (bs (clockL n)), .int .i64 0]) ∧ Below w.heap.size w w' := by
  have hc := checkMinute_any n w
  rw [if_pos ⟨h0, h1⟩] at hc
  have HC := Lib.hid hc
  have HA := Lib.hid (twoDigits_any (n / 60) w (by omega) (by omega) ht)
  have HB := Lib.hid fun w' (hb : Below w.heap.size w w') => twoDigits_any (n % 60) w' (by omega) (by omega) (ht.below hb)
  have e : bs (clockL n) = bs (two (n / 60)) ++ ⟨#[58]⟩ ++ bs (two (n % 60)) := by
    rw [show (⟨#[58]⟩ : ByteArray) = bs [58] from rfl, bs_append, bs_append]; rfl
  have s1 : (bs (two (n / 60))).size = 2 := bs_size _
  have s2 : (bs (two (n % 60))).size = 2 := bs_size _
  rw [e]
  obtain ⟨S, hS⟩ : ∃ S, S = bs (two (n / 60)) := ⟨_, rfl⟩
  obtain ⟨T, hT⟩ : ∃ T, T = bs (two (n % 60)) := ⟨_, rfl⟩
  rw [← hS] at HA s1 ⊢
  rw [← hT] at HB s2 ⊢
  have g1 : ¬ 9223372036854775807 < S.size + 1 := by omega
  have g2 : ¬ 9223372036854775807 < S.size + 1 + T.size := by omega
  clear hc e hS hT ht s1 s2
  go_enter Tryz.func64, Tryz.ntmps64
  go_wp2_with fail
  refine HC.out.mono ?_
  rintro e w' ⟨rfl, rfl⟩
  go_wp2_with fail
  refine HA.out.mono ?_
  rintro e w1 ⟨rfl, hb1⟩
  have B1 := Lib.hid hb1
  clear hb1
  go_wp2_with fail
  refine (HB.out _ B1.out).mono ?_
  rintro e w2 ⟨rfl, hb2⟩
  have B2 := Lib.hid (B1.out.trans (hb2.mono B1.out.size))
  clear hb2
  go_wp2_with fail
  go_ret2
  exact ⟨rfl, B2.out⟩

set_option maxHeartbeats 400000 in
theorem clock_no (n : Int) (w : World) (h : ¬ (0 ≤ n ∧ n < 1440)) :
    Calls Tryz.prog 64 #[.int .i64 n] w fun e w' => e = .returned (.tuple #[.string ⟨#[]⟩, .int .i64 6]) ∧ w = w' := by
  have hc := checkMinute_any n w
  rw [if_neg h] at hc
  have HC := Lib.hid hc
  clear hc h
  go_enter Tryz.func64, Tryz.ntmps64
  go_wp2_with fail
  refine HC.out.mono ?_
  rintro e w' ⟨rfl, rfl⟩
  go_wp2_with fail
  go_ret2
  exact ⟨rfl, rfl⟩

end Cv
end Go.Proofs.YtaaaddmdcldclaaGreatDoor
