/- Contracts of readRun's closure, isDatePart, isUpTo. -/
import Derived.Test.YtaaaddmdcldclaaGreatDoorNi
namespace Go.Proofs.YtaaaddmdcldclaaGreatDoor
open Go.RowKit Go.Shelf

def plainRunB (c : Int) : Bool := digB c || decide (c = 45) || decide (c = 42) || decide (c = 46)
def colonB (s : ByteArray) (k : Nat) : Bool := digB (byteI s (k - 1)) && decide (k + 1 < s.size) && digB (byteI s (k + 1))
def runB (s : ByteArray) (k : Nat) : Bool := if byteI s k = 58 then colonB s k else plainRunB (byteI s k)
def runN (s : ByteArray) : Nat := runF (fun k => runB s k) (s.size - 1) 1

set_option maxHeartbeats 4000000 in
set_option maxRecDepth 100000 in
theorem runc_any (s : ByteArray) (k b : Nat) (hk1 : 1 ≤ k) (hk : k < s.size) (hs : s.size ≤ 1000000) (w : World) (hcb : w.cell? ⟨b, 0, none⟩ = some (.string s)) : Calls Tryz.prog 72 #[.int .i64 k, .pointer (some ⟨b, 0, none⟩)] w fun e w' => e = .returned (.bool (runB s k)) ∧ Below w.heap.size w w' := by
  have HCB := Lib.hid hcb
  have HL := Lib.hid (World.block_lt_of_cell? _ _ hcb)
  obtain ⟨c, hc⟩ : ∃ c : Int, c = (s[k].toNat : Int) := ⟨_, rfl⟩
  have hbc : byteI s k = c := (byteI_at hk).trans hc.symm
  have hc2 : (s[k].toNat : Int) = c := hc.symm
  have k0 : (0 : Int) ≤ (k : Int) := by omega
  have k1 : (k : Int) < (s.size : Int) := by omega
  clear hc
  by_cases h58 : c = 58
  · have t58 : (c == 58) = true := by rw [beq_iff_eq]; exact h58
    have HR := Lib.hid (show runB s k = colonB s k by unfold runB; rw [hbc]; exact if_pos h58)
    clear h58
    obtain ⟨p, hp⟩ : ∃ c : Int, c = (s[k - 1].toNat : Int) := ⟨_, rfl⟩
    have hbp : byteI s (k - 1) = p := (byteI_at (by omega)).trans hp.symm
    have hp2 : (s[k - 1].toNat : Int) = p := hp.symm
    have j1 : IntKind.i64.wrap ((k : Int) - 1) = ((k - 1 : Nat) : Int) := by rw [IntWalk.i64_in _ ⟨by omega, by omega⟩]; omega
    have j2 : ((k - 1 : Nat) : Int) < (s.size : Int) := by omega
    have j3 : (0 : Int) ≤ ((k - 1 : Nat) : Int) := by omega
    have j4 : k - 1 < s.size := by omega
    have j5 : IntKind.i64.wrap ((k : Int) + 1) = ((k + 1 : Nat) : Int) := by rw [IntWalk.i64_in _ ⟨by omega, by omega⟩]; rfl
    have hd1 := fun w => dig_any p w
    obtain ⟨F, hF⟩ : ∃ F, F = digB p := ⟨_, rfl⟩
    rw [← hF] at hd1
    have HD1 := Lib.hid hd1
    have HF := Lib.hid (show F = digB (byteI s (k - 1)) by rw [hbp]; exact hF)
    clear hd1 hF hp hbp
    go_enter Tryz.func72, Tryz.ntmps72
    go_wp2_with fail
    refine (HD1.out _).mono ?_
    rintro e w1 ⟨rfl, hb⟩
    have HB := Lib.hid (hb)
    clear hb
    have x1 := (HB.out.cell (p := ⟨b, 0, none⟩) HL.out).trans HCB.out
    cases F
    · have HY := Lib.hid (show runB s k = false by rw [HR.out]; unfold colonB; rw [← HF.out]; rfl)
      go_wp2_with fail
      go_ret
      exact ⟨by rw [HY.out]; (first | done | rfl), HB.out⟩
    by_cases hn : k + 1 < s.size
    · have hn1 : ((k + 1 : Nat) : Int) < (s.size : Int) := by omega
      have hn2 : (0 : Int) ≤ ((k + 1 : Nat) : Int) := by omega
      obtain ⟨q, hq⟩ : ∃ c : Int, c = (s[k + 1].toNat : Int) := ⟨_, rfl⟩
      have hbq : byteI s (k + 1) = q := (byteI_at hn).trans hq.symm
      have hq2 : (s[k + 1].toNat : Int) = q := hq.symm
      have hd2 := fun w => dig_any q w
      obtain ⟨G, hG⟩ : ∃ F, F = digB q := ⟨_, rfl⟩
      rw [← hG] at hd2
      have HD2 := Lib.hid hd2
      have HG := Lib.hid (show runB s k = G by rw [HR.out, hG]; unfold colonB; rw [← HF.out, hbq, decide_eq_true hn]; rfl)
      clear hd2 hG hq hbq
      go_wp2_with fail
      refine (HD2.out _).mono ?_
      rintro e w2 ⟨rfl, hb⟩
      have HB := Lib.hid (HB.out.trans (hb.mono HB.out.size))
      clear hb
      have x2 := (HB.out.cell (p := ⟨b, 0, none⟩) HL.out).trans HCB.out
      go_wp2_with fail
      go_ret
      exact ⟨by rw [HG.out]; (first | done | rfl), HB.out⟩
    · have hn1 : ¬ ((k + 1 : Nat) : Int) < (s.size : Int) := by omega
      have HY := Lib.hid (show runB s k = false by rw [HR.out]; unfold colonB; rw [decide_eq_false hn, Bool.and_false]; rfl)
      go_wp2_with fail
      go_ret
      exact ⟨by rw [HY.out]; (first | done | rfl), HB.out⟩
  · have t58 : (c == 58) = false := by rw [beq_eq_false_iff_ne]; exact h58
    have HR := Lib.hid (show runB s k = plainRunB c by unfold runB; rw [hbc]; exact if_neg h58)
    clear h58 hbc
    have hd1 := fun w => dig_any c w
    obtain ⟨F, hF⟩ : ∃ F, F = digB c := ⟨_, rfl⟩
    rw [← hF] at hd1
    have HD1 := Lib.hid hd1
    have HF := Lib.hid hF
    clear hd1 hF
    go_enter Tryz.func72, Tryz.ntmps72
    go_wp2_with fail
    refine (HD1.out _).mono ?_
    rintro e w1 ⟨rfl, hb⟩
    have HB := Lib.hid (hb)
    clear hb
    have x1 := (HB.out.cell (p := ⟨b, 0, none⟩) HL.out).trans HCB.out
    cases F
    · by_cases h1 : c = 45
      · have t1 : (c == 45) = true := by rw [beq_iff_eq]; exact h1
        have HY := Lib.hid (show runB s k = true by rw [HR.out]; unfold plainRunB; rw [decide_eq_true h1]; simp)
        go_wp2_with fail
        go_ret
        exact ⟨by rw [HY.out]; (first | done | rfl), HB.out⟩
      have t1 : (c == 45) = false := by rw [beq_eq_false_iff_ne]; exact h1
      by_cases h2 : c = 42
      · have t2 : (c == 42) = true := by rw [beq_iff_eq]; exact h2
        have HY := Lib.hid (show runB s k = true by rw [HR.out]; unfold plainRunB; rw [decide_eq_true h2]; simp)
        go_wp2_with fail
        go_ret
        exact ⟨by rw [HY.out]; (first | done | rfl), HB.out⟩
      have t2 : (c == 42) = false := by rw [beq_eq_false_iff_ne]; exact h2
      by_cases h3 : c = 46
      · have t3 : (c == 46) = true := by rw [beq_iff_eq]; exact h3
        have HY := Lib.hid (show runB s k = true by rw [HR.out]; unfold plainRunB; rw [decide_eq_true h3]; simp)
        go_wp2_with fail
        go_ret
        exact ⟨by rw [HY.out]; (first | done | rfl), HB.out⟩
      · have t3 : (c == 46) = false := by rw [beq_eq_false_iff_ne]; exact h3
        have HY := Lib.hid (show runB s k = false by rw [HR.out]; unfold plainRunB; rw [← HF.out, decide_eq_false h1, decide_eq_false h2, decide_eq_false h3]; rfl)
        go_wp2_with fail
        go_ret
        exact ⟨by rw [HY.out]; (first | done | rfl), HB.out⟩
    · have HY := Lib.hid (show runB s k = true by rw [HR.out]; unfold plainRunB; rw [← HF.out]; rfl)
      go_wp2_with fail
      go_ret
      exact ⟨by rw [HY.out]; (first | done | rfl), HB.out⟩
theorem eg_run : ∀ args w, (callFunc 72 args).run Tryz.prog w = .ok (.enter 72 args) w := enters_of Tryz.func72 (by kernel_rfl) rfl
end Go.Proofs.YtaaaddmdcldclaaGreatDoor
