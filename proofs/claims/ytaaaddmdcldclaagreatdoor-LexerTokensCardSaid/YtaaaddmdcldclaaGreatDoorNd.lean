/- Contracts of lexer.isLetter, isPrintable, and of the specification's Letter and Plain. -/
import Derived.Test.YtaaaddmdcldclaaGreatDoorNc
namespace Go.Proofs.YtaaaddmdcldclaaGreatDoor
open Go.RowKit Go.Shelf

def uppB (c : Int) : Bool := decide (65 ≤ c) && decide (c ≤ 90)
def letB (c : Int) : Bool := lowB c || uppB c
def priB (c : Int) : Bool := decide (32 ≤ c) && decide (c ≤ 126)
def printB (s : ByteArray) : Bool := decide (runF (fun k => priB (byteI s k)) s.size 0 = s.size)
theorem print_yes {s : ByteArray} (h : ∀ j, j < s.size → priB (byteI s j) = true) : printB s = true := by
  unfold printB
  exact decide_eq_true ((runF_all (N := s.size) s.size 0 (by omega)).2 fun j _ h2 => h j h2)
theorem print_no {s : ByteArray} {j : Nat} (h2 : j < s.size) (h3 : priB (byteI s j) = false) : printB s = false := by
  unfold printB
  refine decide_eq_false fun h => ?_
  have := (runF_all (N := s.size) s.size 0 (by omega)).1 h j (by omega) h2
  rw [h3] at this; cases this
theorem let_any (c : Int) (w : World) : Calls Tryz.prog 54 #[.int .u8 c] w fun e w' => e = .returned (.bool (letB c)) ∧ Below w.heap.size w w' := by
  have hlo := fun w => low_any c w
  obtain ⟨F, hF⟩ : ∃ F, F = lowB c := ⟨_, rfl⟩
  rw [← hF] at hlo
  have HLO := Lib.hid hlo
  have HF := Lib.hid hF
  clear hlo hF
  go_enter Tryz.func54, Tryz.ntmps54
  go_wp2_with fail
  refine (HLO.out _).mono ?_
  rintro e w1 ⟨rfl, hb⟩
  have HB1 := Lib.hid hb
  clear hb
  cases F
  · by_cases h1 : 65 ≤ c
    · have HY := Lib.hid (show letB c = decide (c ≤ 90) by unfold letB uppB; rw [← HF.out, decide_eq_true h1, Bool.true_and, Bool.false_or])
      go_wp2_with fail
      go_ret
      exact ⟨by rw [HY.out]; (first | done | rfl), HB1.out⟩
    · have HY := Lib.hid (show letB c = false by unfold letB uppB; rw [← HF.out, decide_eq_false h1]; rfl)
      go_wp2_with fail
      go_ret
      exact ⟨by rw [HY.out]; (first | done | rfl), HB1.out⟩
  · have HY := Lib.hid (show letB c = true by unfold letB; rw [← HF.out]; rfl)
    go_wp2_with fail
    go_ret
    exact ⟨by rw [HY.out]; (first | done | rfl), HB1.out⟩
theorem rlet_any (c : Int) (w : World) : Calls Tryz.prog 59 #[.int .u8 c] w fun e w' => e = .returned (.bool (letB c)) ∧ Below w.heap.size w w' := by
  have hlo := fun w => rlow_any c w
  obtain ⟨F, hF⟩ : ∃ F, F = lowB c := ⟨_, rfl⟩
  rw [← hF] at hlo
  have HLO := Lib.hid hlo
  have HF := Lib.hid hF
  clear hlo hF
  go_enter Tryz.func59, Tryz.ntmps59
  go_wp2_with fail
  refine (HLO.out _).mono ?_
  rintro e w1 ⟨rfl, hb⟩
  have HB1 := Lib.hid hb
  clear hb
  cases F
  · by_cases h1 : 65 ≤ c
    · have HY := Lib.hid (show letB c = decide (c ≤ 90) by unfold letB uppB; rw [← HF.out, decide_eq_true h1, Bool.true_and, Bool.false_or])
      go_wp2_with fail
      go_ret
      exact ⟨by rw [HY.out]; (first | done | rfl), HB1.out⟩
    · have HY := Lib.hid (show letB c = false by unfold letB uppB; rw [← HF.out, decide_eq_false h1]; rfl)
      go_wp2_with fail
      go_ret
      exact ⟨by rw [HY.out]; (first | done | rfl), HB1.out⟩
  · have HY := Lib.hid (show letB c = true by unfold letB; rw [← HF.out]; rfl)
    go_wp2_with fail
    go_ret
    exact ⟨by rw [HY.out]; (first | done | rfl), HB1.out⟩

set_option maxHeartbeats 4000000 in
set_option maxRecDepth 100000 in
theorem pri_any (s : ByteArray) (k b : Nat) (hk : k < s.size) (w : World) (hcb : w.cell? ⟨b, 0, none⟩ = some (.string s)) : Calls Tryz.prog 69 #[.int .i64 k, .pointer (some ⟨b, 0, none⟩)] w fun e w' => e = .returned (.bool (priB (byteI s k))) ∧ Below w.heap.size w w' := by
  have HCB := Lib.hid hcb
  have HL := Lib.hid (World.block_lt_of_cell? _ _ hcb)
  obtain ⟨c, hc⟩ : ∃ c : Int, c = (s[k].toNat : Int) := ⟨_, rfl⟩
  rw [byteI_at hk, ← hc]
  have hc2 : (s[k].toNat : Int) = c := hc.symm
  have k1 : (0 : Int) ≤ (k : Int) := by omega
  clear hc
  by_cases h1 : 32 ≤ c
  · have HY := Lib.hid (show priB c = decide (c ≤ 126) by unfold priB; rw [decide_eq_true h1, Bool.true_and])
    go_enter Tryz.func69, Tryz.ntmps69
    go_wp2_with fail
    go_ret
    exact ⟨by rw [HY.out]; (first | done | rfl), Below.refl _ _⟩
  · have HY := Lib.hid (show priB c = false by unfold priB; rw [decide_eq_false h1]; rfl)
    go_enter Tryz.func69, Tryz.ntmps69
    go_wp2_with fail
    go_ret
    exact ⟨by rw [HY.out]; (first | done | rfl), Below.refl _ _⟩
theorem eg_pri : ∀ args w, (callFunc 69 args).run Tryz.prog w = .ok (.enter 69 args) w := enters_of Tryz.func69 (by kernel_rfl) rfl

set_option maxHeartbeats 4000000 in
set_option maxRecDepth 100000 in
theorem print_any (s : ByteArray) (hsz : s.size ≤ 4611686018427387904) (w : World) : Calls Tryz.prog 50 #[.string s] w fun e w' => e = .returned (.bool (printB s)) ∧ Below w.heap.size w w' := by
  obtain ⟨W, g, hW, hg, R1, B, sz⟩ := box1 w #[.string s] 9
  have HB0 := Lib.hid B
  have HG0 := Lib.hid R1
  obtain ⟨N, hN⟩ : ∃ N, N = s.size := ⟨_, rfl⟩
  have HN := Lib.hid hN
  have hN2 : s.size = N := hN.symm
  obtain ⟨V, hV⟩ : ∃ V, V = runF (fun k => priB (byteI s k)) s.size 0 := ⟨_, rfl⟩
  have hre := fun (W' : World) (hb : Below W.heap.size W W') => runEnd_any 69 #[.pointer (some ⟨g, 0, none⟩)] (fun k => priB (byteI s k)) s 0 W' (Nat.zero_le _) hsz eg_pri (fun W2 k hk hb2 => pri_any s k g hk W2 ((HG0.out.keep (hb.trans (hb2.mono hb.size))).c 0 _ rfl))
  rw [Nat.sub_zero, ← hV] at hre
  have HRE := Lib.hid hre
  have HV := Lib.hid hV
  have HCC := Lib.hid (show W.cell? ⟨g, 0, none⟩ = some (.string s) ∧ Below W.heap.size W W from ⟨HG0.out.c 0 _ rfl, Below.refl _ _⟩)
  have HCD := Lib.hid (show W.drew.cell? ⟨g, 0, none⟩ = some (.string s) ∧ Below W.heap.size W W.drew from ⟨HG0.out.drew.c 0 _ rfl, (Below.refl _ _).drew⟩)
  have HSZ := Lib.hid hsz
  clear R1 B sz hre hV hN hsz
  go_enter Tryz.func50, Tryz.ntmps50
  go_upto_region 1 with fail
  rw [← hW]
  try rw [← hg]
  clear hW hg
  have g0 := HG0.out.c 0 _ rfl
  go_region_held3 (fun w' => w'.cell? ⟨g, 0, none⟩ = some (.string s) ∧ Below W.heap.size W w')
    (first | (with_reducible exact HCC.out) | (with_reducible exact HCD.out) | (with_reducible exact HS1.out) | go_keep)
    (first | (go_at_call 45; refine (HRE.out _ (by first | exact Below.refl _ _ | exact (Below.refl _ _).drew)).mono ?_; rintro e x1 ⟨rfl, hb2⟩; have KB1 : Hid (Below W.heap.size W x1) := Lib.hid (by first | exact hb2 | exact (Below.refl _ _).drew.trans hb2); have HS1 : Hid (x1.cell? ⟨g, 0, none⟩ = some (.string s) ∧ Below W.heap.size W x1) := Lib.hid ⟨(HG0.out.keep KB1.out).c 0 _ rfl, KB1.out⟩))
  all_goals
    rename_i hHeld
    have hB := HB0.out.trans (hHeld.2.mono HB0.out.size)
    clear hHeld
    by_cases hvn : V = N
    · have HY := Lib.hid (show printB s = true by unfold printB; rw [← HV.out, ← HN.out]; exact decide_eq_true hvn)
      go_wp2_with fail
      go_ret
      exact ⟨by rw [HY.out]; (first | done | rfl | (simp [hvn])), hB⟩
    · have HY := Lib.hid (show printB s = false by unfold printB; rw [← HV.out, ← HN.out]; exact decide_eq_false hvn)
      go_wp2_with fail
      go_ret
      exact ⟨by rw [HY.out]; (first | done | rfl | (simp; omega)), hB⟩

set_option maxHeartbeats 4000000 in
set_option maxRecDepth 100000 in
theorem plain_any (s : ByteArray) (hsz : s.size ≤ 4611686018427387904) (w : World) : Calls Tryz.prog 52 #[.string s] w fun e w' => e = .returned (.bool (printB s)) ∧ Below w.heap.size w w' := by
  go_enter Tryz.func52, Tryz.ntmps52
  go_wp2_with fail
  have HSZ := Lib.hid hsz
  clear hsz
  go_loopw [3] (fun i wr => ∃ j : Nat, j ≤ s.size ∧ i = .int .i64 j ∧ Hid ((∀ k, k < j → priB (byteI s k) = true) ∧ Below w.heap.size w wr)) (fun i _ => s.size - (intOf i).toNat)
  case atStart => exact ⟨0, Nat.zero_le _, rfl, Lib.hid ⟨fun k h => absurd h (Nat.not_lt_zero k), Below.refl _ _⟩⟩
  case round =>
    obtain ⟨j, hj2, rfl, hH⟩ := hrel
    have HK := Lib.hid hH.out.1
    have HBR := Lib.hid hH.out.2
    clear hH
    by_cases hlt : j < s.size
    · obtain ⟨c, hc⟩ : ∃ c : Int, c = (s[j].toNat : Int) := ⟨_, rfl⟩
      have hbj : byteI s j = c := (byteI_at hlt).trans hc.symm
      have hc' : (s[j].toNat : Int) = c := hc.symm
      have k1 : (0 : Int) ≤ (j : Int) := by omega
      have k2 : (j : Int) < (s.size : Int) := by omega
      have k3 : IntKind.i64.wrap ((j : Int) + 1) = ((j + 1 : Nat) : Int) := by have := HSZ.out; rw [IntWalk.i64_in _ ⟨by omega, by omega⟩]; rfl
      by_cases h1 : c < 32
      · have HY := Lib.hid (print_no hlt (by rw [hbj]; unfold priB; rw [decide_eq_false (show ¬ 32 ≤ c by omega)]; rfl))
        clear hc hbj
        go_wp2_with fail
        go_ret
        exact ⟨by rw [HY.out]; (first | done | rfl), HBR.out⟩
      by_cases h2 : 126 < c
      · have HY := Lib.hid (print_no hlt (by rw [hbj]; unfold priB; rw [decide_eq_false (show ¬ c ≤ 126 by omega), Bool.and_false]))
        clear hc hbj
        go_wp2_with fail
        go_ret
        exact ⟨by rw [HY.out]; (first | done | rfl), HBR.out⟩
      have HK2 := Lib.hid (show ∀ k, k < j + 1 → priB (byteI s k) = true from fun k h2 => by
        by_cases h : k = j
        · rw [h, hbj]; unfold priB; rw [decide_eq_true (show 32 ≤ c by omega), decide_eq_true (show c ≤ 126 by omega)]; rfl
        · exact HK.out k (by omega))
      clear hc hbj
      go_wp2_with fail
      go_roundw
      case rel => exact ⟨j + 1, by omega, by go_num, Lib.hid ⟨HK2.out, HBR.out⟩⟩
      case measure => (simp [intOf]) <;> omega
    · obtain rfl : j = s.size := by omega
      have HY := Lib.hid (print_yes HK.out)
      go_wp2_with fail
      go_ret
      exact ⟨by rw [HY.out]; (first | done | rfl), HBR.out⟩
end Go.Proofs.YtaaaddmdcldclaaGreatDoor
