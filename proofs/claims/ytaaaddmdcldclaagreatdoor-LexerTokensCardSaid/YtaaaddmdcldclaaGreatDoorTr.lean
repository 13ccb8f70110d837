/- Contracts of the specification's number, field, word, Sign. -/
import Derived.Test.YtaaaddmdcldclaaGreatDoorPd
import Derived.Test.YtaaaddmdcldclaaGreatDoorNz
import Derived.Test.YtaaaddmdcldclaaGreatDoorNc
import Derived.Test.YtaaaddmdcldclaaGreatDoorNk
namespace Go.Proofs.YtaaaddmdcldclaaGreatDoor
open Go.RowKit Go.Shelf
set_option linter.unusedVariables false
set_option linter.unusedSimpArgs false

def nstep (n c : Int) : Int := if n < 10000000000000 then 10 * n + (c - 48) else n
def nfold (s : ByteArray) : Nat → Int
  | 0 => 0
  | k + 1 => nstep (nfold s k) (byteI s k)
/-- what the specification's number answers -/
def numberN (s : ByteArray) : Int := if s.size = 0 then -1 else if digsB s = true then nfold s s.size else -1
theorem digs_yes {s : ByteArray} (h : ∀ j, j < s.size → digB (byteI s j) = true) : digsB s = true := by
  unfold digsB
  exact decide_eq_true (runF_eq (Nat.zero_le _) (by omega) (fun j _ b => h j b) (.inl (by omega)))
theorem digs_no {s : ByteArray} {j : Nat} (hj : j < s.size) (h : digB (byteI s j) = false) : digsB s = false := by
  unfold digsB
  refine decide_eq_false (fun e => ?_)
  have hs : digB (byteI s j) = true := (runF_spec (fun k => digB (byteI s k)) s.size 0).1 j (Nat.zero_le _) (by omega)
  rw [h] at hs
  cases hs
theorem nfold_range (s : ByteArray) : ∀ k, (∀ j, j < k → digB (byteI s j) = true) → 0 ≤ nfold s k ∧ nfold s k ≤ 100000000000000
  | 0, _ => ⟨Int.le_refl 0, by show (0 : Int) ≤ _; decide⟩
  | k + 1, h => by
    have ih := nfold_range s k (fun j hj => h j (by omega))
    have hd := h k (by omega)
    unfold digB at hd
    simp only [Bool.and_eq_true, decide_eq_true_eq] at hd
    show 0 ≤ nstep (nfold s k) (byteI s k) ∧ nstep (nfold s k) (byteI s k) ≤ _
    unfold nstep
    split <;> omega
theorem u8_in (x : Int) (h1 : 0 ≤ x) (h2 : x ≤ 255) : IntKind.u8.wrap x = x := by
  show x % 256 = x
  omega
set_option maxHeartbeats 8000000 in
set_option maxRecDepth 100000 in
theorem number_any (s : ByteArray) (hs : s.size ≤ 1000000) (w : World) : Calls Tryz.prog 67 #[.string s] w fun e w' => e = .returned (.int .i64 (numberN s)) ∧ Below w.heap.size w w' := by
  by_cases h0 : s.size = 0
  · have HY := Lib.hid (show numberN s = -1 from if_pos h0)
    have t0 : ((s.size : Int) == 0) = true := by rw [h0]; rfl
    clear h0
    go_enter Tryz.func67, Tryz.ntmps67
    go_wp2_with fail
    go_ret
    exact ⟨by rw [HY.out]; (first | done | rfl), Below.refl _ _⟩
  have t0 : ((s.size : Int) == 0) = false := by rw [beq_eq_false_iff_ne]; omega
  have hpos : 0 < s.size := by omega
  have HS := Lib.hid hs
  clear h0 hs
  go_enter Tryz.func67, Tryz.ntmps67
  go_wp2_with fail
  go_loopw [3, 4] (fun nv iv wr => ∃ (k : Nat) (n : Int), k ≤ s.size ∧ nv = .int .i64 n ∧ iv = .int .i64 k ∧ Hid ((∀ j, j < k → digB (byteI s j) = true) ∧ n = nfold s k ∧ Below w.heap.size w wr)) (fun _ iv _ => s.size - (intOf iv).toNat)
  case atStart => exact ⟨0, 0, Nat.zero_le _, rfl, rfl, Lib.hid ⟨fun j h => by omega, rfl, Below.refl _ _⟩⟩
  case round =>
    obtain ⟨k, n, hk, rfl, rfl, hH⟩ := hrel
    have HD := Lib.hid hH.out.1
    have HE := Lib.hid hH.out.2.1
    have HB := Lib.hid hH.out.2.2
    clear hH
    by_cases hlt : k < s.size
    · obtain ⟨x, hx⟩ : ∃ x : Int, x = (s[k].toNat : Int) := ⟨_, rfl⟩
      have HXB := Lib.hid (show byteI s k = x from (byteI_at hlt).trans hx.symm)
      have hx2 : (s[k].toNat : Int) = x := hx.symm
      have k1 : (0 : Int) ≤ (k : Int) := by omega
      have k2 : (k : Int) < (s.size : Int) := by omega
      have k3 : IntKind.i64.wrap ((k : Int) + 1) = (k : Int) + 1 := IntWalk.i64_in _ (by have := HS.out; omega)
      have hdg := fun w => rdig_any x w
      obtain ⟨D, hD⟩ : ∃ D, D = digB x := ⟨_, rfl⟩
      rw [← hD] at hdg
      have HDG := Lib.hid hdg
      have HDD := Lib.hid hD
      clear hx hdg hD
      go_wp2_with fail
      refine (HDG.out _).mono ?_
      rintro e w2 ⟨rfl, hb⟩
      have HB := Lib.hid (HB.out.trans (hb.mono HB.out.size))
      clear hb
      cases D
      · have HY := Lib.hid (show numberN s = -1 by unfold numberN; rw [if_neg (by omega), if_neg (by rw [digs_no hlt (by rw [HXB.out]; exact HDD.out.symm)]; simp)])
        go_wp2_with fail
        go_ret
        exact ⟨by rw [HY.out]; (first | done | rfl), HB.out⟩
      have hrg := nfold_range s k HD.out
      rw [← HE.out] at hrg
      have hxr : 48 ≤ x ∧ x ≤ 57 := by
        have h := HDD.out.symm
        unfold digB at h
        simpa using h
      have HXR := Lib.hid hxr
      by_cases hn : n < 10000000000000
      · have w1 : IntKind.i64.wrap (10 * n) = 10 * n := IntWalk.i64_in _ ⟨by omega, by omega⟩
        have w2' : IntKind.u8.wrap (x - 48) = x - 48 := Go.Proofs.YtaaaddmdcldclaaGreatDoor.u8_in _ (by omega) (by omega)
        have w4 : IntKind.i64.wrap (x - 48) = x - 48 := IntWalk.i64_in _ ⟨by omega, by omega⟩
        have w3 : IntKind.i64.wrap (10 * n + (x - 48)) = 10 * n + (x - 48) := IntWalk.i64_in _ ⟨by omega, by omega⟩
        have HST := Lib.hid (show 10 * n + (x - 48) = nfold s (k + 1) by show _ = nstep (nfold s k) (byteI s k); rw [← HE.out, HXB.out]; exact (if_pos hn).symm)
        clear hrg hxr
        go_wp2_with fail
        go_roundw
        case rel => exact ⟨k + 1, 10 * n + (x - 48), by omega, rfl, by go_num, Lib.hid ⟨fun j hj => by (by_cases h : j = k; rw [h, HXB.out]; exact HDD.out.symm; exact HD.out j (by omega)), HST.out, HB.out⟩⟩
        case measure => (simp [intOf]) <;> omega
      · have HST := Lib.hid (show n = nfold s (k + 1) by show _ = nstep (nfold s k) (byteI s k); rw [← HE.out]; exact (if_neg hn).symm)
        clear hrg hxr
        go_wp2_with fail
        go_roundw
        case rel => exact ⟨k + 1, n, by omega, rfl, by go_num, Lib.hid ⟨fun j hj => by (by_cases h : j = k; rw [h, HXB.out]; exact HDD.out.symm; exact HD.out j (by omega)), HST.out, HB.out⟩⟩
        case measure => (simp [intOf]) <;> omega
    · obtain rfl : k = s.size := by omega
      have HY := Lib.hid (show numberN s = n by unfold numberN; rw [if_neg (by omega), if_pos (digs_yes HD.out)]; exact HE.out.symm)
      go_wp2_with fail
      go_ret
      exact ⟨by rw [HY.out]; (first | done | rfl), HB.out⟩
end Go.Proofs.YtaaaddmdcldclaaGreatDoor
