/- Contracts of Label, of both sides. -/
import Derived.Test.YtaaaddmdcldclaaGreatDoorNx
namespace Go.Proofs.YtaaaddmdcldclaaGreatDoor
open Go.RowKit Go.Shelf

def labelB (s : ByteArray) : Bool := decide (0 < s.size) && decide (s.size ≤ 40) && !decide (byteI s 0 = 32) && !decide (byteI s (s.size - 1) = 32) && printB s && !decide (0 ≤ ixB s 34)
theorem nil_no {s : ByteArray} (h0 : 0 < s.size) : (s.toList == ([] : List UInt8)) = false := by
  rw [beq_eq_false_iff_ne]; intro h
  rw [toList_eq] at h
  have h2 : s.data.toList.length = 0 := by rw [h]; rfl
  have h3 : s.data.toList.length = s.size := by simp
  omega
theorem empty_of {s : ByteArray} (h : s.size = 0) : s = ⟨#[]⟩ := by
  obtain ⟨d⟩ := s
  have : d.size = 0 := h
  congr 1
  exact Array.eq_empty_of_size_eq_zero this
theorem label_none : labelB ⟨#[]⟩ = false := by first | rfl | decide
theorem contains_34 (s : ByteArray) (w : World) : Calls Tryz.prog 51 #[.string s, .string ⟨#[34]⟩] w fun e w' => e = .returned (.bool (decide (0 ≤ ixB s 34))) ∧ Below w.heap.size w w' := by
  refine (Tryz.strings_Contains_one s 34 w).mono ?_
  rintro e w' ⟨h, rfl⟩
  exact ⟨h, Below.refl _ _⟩
theorem label_empty (w : World) : Calls Tryz.prog 26 #[.string ⟨#[]⟩] w fun e w' => e = .returned (.bool (labelB ⟨#[]⟩)) ∧ Below w.heap.size w w' := by
  rw [label_none]
  go_enter Tryz.func26, Tryz.ntmps26
  go_wp2_with fail
  go_ret
  exact ⟨rfl, Below.refl _ _⟩

set_option maxHeartbeats 4000000 in
set_option maxRecDepth 100000 in
theorem label_some (s : ByteArray) (h0 : 0 < s.size) (hs : s.size ≤ 1000000) (w : World) : Calls Tryz.prog 26 #[.string s] w fun e w' => e = .returned (.bool (labelB s)) ∧ Below w.heap.size w w' := by
  have h1' : (1 : Int) ≤ (s.size : Int) := by omega
  obtain ⟨a, ha⟩ : ∃ c : Int, c = (s[0].toNat : Int) := ⟨_, rfl⟩
  obtain ⟨z, hz⟩ : ∃ c : Int, c = (s[s.size - 1].toNat : Int) := ⟨_, rfl⟩
  have ha2 : (s[0].toNat : Int) = a := ha.symm
  have hz2 : (s[s.size - 1].toNat : Int) = z := hz.symm
  have hba : byteI s 0 = a := (byteI_at h0).trans ha.symm
  have hbz : byteI s (s.size - 1) = z := (byteI_at (by omega)).trans hz.symm
  have j1 : IntKind.i64.wrap ((s.size : Int) - 1) = ((s.size - 1 : Nat) : Int) := by rw [IntWalk.i64_in _ ⟨by omega, by omega⟩]; omega
  have j2 : ((s.size - 1 : Nat) : Int) < (s.size : Int) := by omega
  have j3 : (0 : Int) ≤ ((s.size - 1 : Nat) : Int) := by omega
  have j4 : s.size - 1 < s.size := by omega
  have hnl := nil_no h0
  have hpr := fun w => print_any s (by omega) w
  have hco := fun w => contains_34 s w
  obtain ⟨F, hF⟩ : ∃ x, x = printB s := ⟨_, rfl⟩
  obtain ⟨G, hG⟩ : ∃ x, x = decide (0 ≤ ixB s 34) := ⟨_, rfl⟩
  rw [← hF] at hpr
  rw [← hG] at hco
  have HPR := Lib.hid hpr
  have HCO := Lib.hid hco
  have HF := Lib.hid hF
  have HG := Lib.hid hG
  have HA := Lib.hid hba
  have HZ := Lib.hid hbz
  clear hpr hco hF hG hba hbz ha hz
  go_enter Tryz.func26, Tryz.ntmps26
  by_cases h40 : 40 < s.size
  · have HY := Lib.hid (show labelB s = false by unfold labelB; rw [decide_eq_false (show ¬ s.size ≤ 40 by omega)]; simp)
    have h40' : 40 < (s.size : Int) := by omega
    go_wp2_with fail
    go_ret
    exact ⟨by rw [HY.out]; (first | done | rfl), Below.refl _ _⟩
  have h40' : ¬ 40 < (s.size : Int) := by omega
  by_cases h32 : a = 32
  · have HY := Lib.hid (show labelB s = false by unfold labelB; rw [HA.out, decide_eq_true h32]; simp)
    have t1 : (a == 32) = true := by rw [beq_iff_eq]; exact h32
    clear h32
    go_wp2_with fail
    go_ret
    exact ⟨by rw [HY.out]; (first | done | rfl), Below.refl _ _⟩
  have t1 : (a == 32) = false := by rw [beq_eq_false_iff_ne]; exact h32
  by_cases h33 : z = 32
  · have HY := Lib.hid (show labelB s = false by unfold labelB; rw [HZ.out, decide_eq_true h33]; simp)
    have t2 : (z == 32) = true := by rw [beq_iff_eq]; exact h33
    clear h32 h33
    go_wp2_with fail
    go_ret
    exact ⟨by rw [HY.out]; (first | done | rfl), Below.refl _ _⟩
  have t2 : (z == 32) = false := by rw [beq_eq_false_iff_ne]; exact h33
  have HQ := Lib.hid (show labelB s = (F && !G) by unfold labelB; rw [HA.out, HZ.out, decide_eq_false h32, decide_eq_false h33, ← HF.out, ← HG.out, decide_eq_true h0, decide_eq_true (show s.size ≤ 40 by omega)]; rfl)
  clear h32 h33
  go_wp2_with fail
  refine (HPR.out _).mono ?_
  rintro e w1 ⟨rfl, hb⟩
  have HB1 := Lib.hid hb
  clear hb
  cases F
  · have HY := Lib.hid (show labelB s = false by rw [HQ.out]; rfl)
    go_wp2_with fail
    go_ret
    exact ⟨by rw [HY.out]; (first | done | rfl), HB1.out⟩
  · have HY := Lib.hid (show labelB s = !G by rw [HQ.out]; exact Bool.true_and _)
    go_wp2_with fail
    refine (HCO.out _).mono ?_
    rintro e w2 ⟨rfl, hb⟩
    have HB2 := Lib.hid (HB1.out.trans (hb.mono HB1.out.size))
    clear hb
    go_wp2_with fail
    go_ret
    exact ⟨by rw [HY.out]; (first | done | rfl), HB2.out⟩
theorem label_any (s : ByteArray) (hs : s.size ≤ 1000000) (w : World) : Calls Tryz.prog 26 #[.string s] w fun e w' => e = .returned (.bool (labelB s)) ∧ Below w.heap.size w w' := by
  by_cases h : s.size = 0
  · rw [empty_of h]; exact label_empty w
  · exact label_some s (by omega) hs w

set_option maxHeartbeats 4000000 in
set_option maxRecDepth 100000 in
theorem rlabel_any (s : ByteArray) (hs : s.size ≤ 1000000) (w : World) : Calls Tryz.prog 27 #[.string s] w fun e w' => e = .returned (.bool (labelB s)) ∧ Below w.heap.size w w' := by
  by_cases h1 : s.size < 1
  · have HY := Lib.hid (show labelB s = false by rw [empty_of (show s.size = 0 by omega)]; exact label_none)
    have h1' : (s.size : Int) < 1 := by omega
    go_enter Tryz.func27, Tryz.ntmps27
    go_wp2_with fail
    go_ret
    exact ⟨by rw [HY.out]; (first | done | rfl), Below.refl _ _⟩
  have h0 : 0 < s.size := by omega
  have h1' : (1 : Int) ≤ (s.size : Int) := by omega
  obtain ⟨a, ha⟩ : ∃ c : Int, c = (s[0].toNat : Int) := ⟨_, rfl⟩
  obtain ⟨z, hz⟩ : ∃ c : Int, c = (s[s.size - 1].toNat : Int) := ⟨_, rfl⟩
  have ha2 : (s[0].toNat : Int) = a := ha.symm
  have hz2 : (s[s.size - 1].toNat : Int) = z := hz.symm
  have hba : byteI s 0 = a := (byteI_at h0).trans ha.symm
  have hbz : byteI s (s.size - 1) = z := (byteI_at (by omega)).trans hz.symm
  have j1 : IntKind.i64.wrap ((s.size : Int) - 1) = ((s.size - 1 : Nat) : Int) := by rw [IntWalk.i64_in _ ⟨by omega, by omega⟩]; omega
  have j2 : ((s.size - 1 : Nat) : Int) < (s.size : Int) := by omega
  have j3 : (0 : Int) ≤ ((s.size - 1 : Nat) : Int) := by omega
  have j4 : s.size - 1 < s.size := by omega
  have hnl := nil_no h0
  have h1'' : ¬ (s.size : Int) < 1 := by omega
  have hpr := fun w => plain_any s (by omega) w
  obtain ⟨F, hF⟩ : ∃ x, x = printB s := ⟨_, rfl⟩
  rw [← hF] at hpr
  have HPR := Lib.hid hpr
  have HF := Lib.hid hF
  have HA := Lib.hid hba
  have HZ := Lib.hid hbz
  clear hpr hF hba hbz ha hz hnl
  go_enter Tryz.func27, Tryz.ntmps27
  by_cases h40 : 40 < s.size
  · have HY := Lib.hid (show labelB s = false by unfold labelB; rw [decide_eq_false (show ¬ s.size ≤ 40 by omega)]; simp)
    have h40' : 40 < (s.size : Int) := by omega
    go_wp2_with fail
    go_ret
    exact ⟨by rw [HY.out]; (first | done | rfl), Below.refl _ _⟩
  have h40' : ¬ 40 < (s.size : Int) := by omega
  go_wp2_with fail
  refine (HPR.out _).mono ?_
  rintro e w1 ⟨rfl, hb⟩
  have HB1 := Lib.hid hb
  clear hb
  cases F
  · have HY := Lib.hid (show labelB s = false by unfold labelB; rw [← HF.out]; simp)
    go_wp2_with fail
    go_ret
    exact ⟨by rw [HY.out]; (first | done | rfl), HB1.out⟩
  by_cases h32 : a = 32
  · have HY := Lib.hid (show labelB s = false by unfold labelB; rw [HA.out, decide_eq_true h32]; simp)
    have t1 : (a == 32) = true := by rw [beq_iff_eq]; exact h32
    clear h32
    go_wp2_with fail
    go_ret
    exact ⟨by rw [HY.out]; (first | done | rfl), HB1.out⟩
  have t1 : (a == 32) = false := by rw [beq_eq_false_iff_ne]; exact h32
  by_cases h33 : z = 32
  · have HY := Lib.hid (show labelB s = false by unfold labelB; rw [HZ.out, decide_eq_true h33]; simp)
    have t2 : (z == 32) = true := by rw [beq_iff_eq]; exact h33
    clear h32 h33
    go_wp2_with fail
    go_ret
    exact ⟨by rw [HY.out]; (first | done | rfl), HB1.out⟩
  have t2 : (z == 32) = false := by rw [beq_eq_false_iff_ne]; exact h33
  have HQ := Lib.hid (show labelB s = !decide (0 ≤ ixB s 34) by unfold labelB; rw [HA.out, HZ.out, decide_eq_false h32, decide_eq_false h33, ← HF.out, decide_eq_true h0, decide_eq_true (show s.size ≤ 40 by omega)]; rfl)
  have HSZ := Lib.hid hs
  clear h32 h33
  go_wp2_with fail
  clear t1 t2 h40 h40' HA HZ HF HPR ha2 hz2 j1 j2 j3 j4 h0 h1 h1' h1'' hs
  go_loopw [3] (fun i wr => ∃ j : Nat, j ≤ s.size ∧ i = .int .i64 j ∧ Hid ((∀ k, k < j → byteI s k ≠ ((34 : UInt8).toNat : Int)) ∧ Below w.heap.size w wr)) (fun i _ => s.size - (intOf i).toNat)
  case atStart => exact ⟨0, Nat.zero_le _, rfl, Lib.hid ⟨fun k h => absurd h (Nat.not_lt_zero k), HB1.out⟩⟩
  case round =>
    obtain ⟨j, hj2, rfl, hH⟩ := hrel
    have HK := Lib.hid hH.out.1
    have HBR := Lib.hid hH.out.2
    clear hH
    by_cases hlt : j < s.size
    · obtain ⟨c, hc⟩ : ∃ c : Int, c = (s[j].toNat : Int) := ⟨_, rfl⟩
      have hbj : byteI s j = c := (byteI_at hlt).trans hc.symm
      have hc' : (s[j].toNat : Int) = c := hc.symm
      have k1 : (0 : Int) ≤ (j : Int) := by omega
      have k2 : (j : Int) < (s.size : Int) := by omega
      have k3 : IntKind.i64.wrap ((j : Int) + 1) = ((j + 1 : Nat) : Int) := by have := HSZ.out; rw [IntWalk.i64_in _ ⟨by omega, by omega⟩]; rfl
      by_cases h1 : c = 34
      · have HY := Lib.hid (show labelB s = false by rw [HQ.out, ix_hit hlt (by rw [hbj, h1]; rfl) HK.out, decide_eq_true (by omega)]; rfl)
        have t1 : (c == 34) = true := by rw [beq_iff_eq]; exact h1
        clear hc hbj h1
        go_wp2_with fail
        go_ret
        exact ⟨by rw [HY.out]; (first | done | rfl), HBR.out⟩
      · have HK2 := Lib.hid (show ∀ k, k < j + 1 → byteI s k ≠ ((34 : UInt8).toNat : Int) from fun k h2 => by
          by_cases h : k = j
          · rw [h, hbj]; exact h1
          · exact HK.out k (by omega))
        have t1 : (c == 34) = false := by rw [beq_eq_false_iff_ne]; exact h1
        clear hc hbj h1
        go_wp2_with fail
        go_roundw
        case rel => exact ⟨j + 1, by omega, by go_num, Lib.hid ⟨HK2.out, HBR.out⟩⟩
        case measure => (simp [intOf]) <;> omega
    · obtain rfl : j = s.size := by omega
      have HY := Lib.hid (show labelB s = true by rw [HQ.out, ix_miss HK.out]; rfl)
      go_wp2_with fail
      go_ret
      exact ⟨by rw [HY.out]; (first | done | rfl), HBR.out⟩
end Go.Proofs.YtaaaddmdcldclaaGreatDoor
