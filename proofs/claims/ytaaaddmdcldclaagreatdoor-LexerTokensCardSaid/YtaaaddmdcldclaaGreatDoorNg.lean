/- Contracts of lexer.readWord and readText. -/
import Derived.Test.YtaaaddmdcldclaaGreatDoorNf
namespace Go.Proofs.YtaaaddmdcldclaaGreatDoor
open Go.RowKit Go.Shelf

def wordB (c : Int) : Bool := letB c || digB c || decide (c = 95) || decide (c = 47)
def wordN (s : ByteArray) : Nat := runF (fun k => wordB (byteI s k)) (s.size - 1) 1
def tokV (kind : Int) (t : ByteArray) (n at' : Int) : Value := .agg #[.int .i64 kind, .string t, .int .i64 n, .int .i64 at']
def tok0 : Value := tokV 0 ⟨#[]⟩ 0 0
theorem runF_le (p : Nat → Bool) : ∀ n k, runF p n k ≤ k + n ∧ k ≤ runF p n k
  | 0, k => ⟨Nat.le_refl _, Nat.le_refl _⟩
  | n + 1, k => by
    unfold runF
    have := runF_le p n (k + 1)
    split <;> omega

set_option maxHeartbeats 4000000 in
set_option maxRecDepth 100000 in
theorem wordc_any (s : ByteArray) (k b : Nat) (hk : k < s.size) (w : World) (hcb : w.cell? ⟨b, 0, none⟩ = some (.string s)) : Calls Tryz.prog 71 #[.int .i64 k, .pointer (some ⟨b, 0, none⟩)] w fun e w' => e = .returned (.bool (wordB (byteI s k))) ∧ Below w.heap.size w w' := by
  have HCB := Lib.hid hcb
  have HL := Lib.hid (World.block_lt_of_cell? _ _ hcb)
  obtain ⟨c, hc⟩ : ∃ c : Int, c = (s[k].toNat : Int) := ⟨_, rfl⟩
  rw [byteI_at hk, ← hc]
  have hle := fun w => let_any c w
  have hdi := fun w => dig_any c w
  obtain ⟨F, hF⟩ : ∃ F, F = letB c := ⟨_, rfl⟩
  obtain ⟨D, hD⟩ : ∃ F, F = digB c := ⟨_, rfl⟩
  rw [← hF] at hle
  rw [← hD] at hdi
  have HLE := Lib.hid hle
  have HDI := Lib.hid hdi
  have HF := Lib.hid hF
  have HD := Lib.hid hD
  have hc2 : (s[k].toNat : Int) = c := hc.symm
  have k1 : (0 : Int) ≤ (k : Int) := by omega
  clear hle hdi hF hD hc
  go_enter Tryz.func71, Tryz.ntmps71
  go_wp2_with fail
  refine (HLE.out _).mono ?_
  rintro e w1 ⟨rfl, hb⟩
  have HB := Lib.hid hb
  clear hb hcb
  have x1 := (HB.out.cell (p := ⟨b, 0, none⟩) HL.out).trans HCB.out
  cases F
  · go_wp2_with fail
    refine (HDI.out _).mono ?_
    rintro e w2 ⟨rfl, hb⟩
    have HB := Lib.hid (HB.out.trans (hb.mono HB.out.size))
    clear hb x1
    have x2 := (HB.out.cell (p := ⟨b, 0, none⟩) HL.out).trans HCB.out
    cases D
    · by_cases h9 : c = 95
      · have t9 : (c == 95) = true := by rw [beq_iff_eq]; exact h9
        have HY := Lib.hid (show wordB c = true by unfold wordB; rw [decide_eq_true h9]; simp)
        clear h9
        go_wp2_with fail
        go_ret
        exact ⟨by rw [HY.out]; (first | done | rfl), HB.out⟩
      have t9 : (c == 95) = false := by rw [beq_eq_false_iff_ne]; exact h9
      by_cases h8 : c = 47
      · have t8 : (c == 47) = true := by rw [beq_iff_eq]; exact h8
        have HY := Lib.hid (show wordB c = true by unfold wordB; rw [decide_eq_true h8]; simp)
        clear h9 h8
        go_wp2_with fail
        go_ret
        exact ⟨by rw [HY.out]; (first | done | rfl), HB.out⟩
      · have t8 : (c == 47) = false := by rw [beq_eq_false_iff_ne]; exact h8
        have HY := Lib.hid (show wordB c = false by unfold wordB; rw [← HF.out, ← HD.out, decide_eq_false h9, decide_eq_false h8]; simp)
        clear h9 h8
        go_wp2_with fail
        go_ret
        exact ⟨by rw [HY.out]; (first | done | rfl), HB.out⟩
    · have HY := Lib.hid (show wordB c = true by unfold wordB; rw [← HD.out]; simp)
      go_wp2_with fail
      go_ret
      exact ⟨by rw [HY.out]; (first | done | rfl), HB.out⟩
  · have HY := Lib.hid (show wordB c = true by unfold wordB; rw [← HF.out]; simp)
    go_wp2_with fail
    go_ret
    exact ⟨by rw [HY.out]; (first | done | rfl), HB.out⟩
theorem eg_word : ∀ args w, (callFunc 71 args).run Tryz.prog w = .ok (.enter 71 args) w := enters_of Tryz.func71 (by kernel_rfl) rfl
def readWordV (s : ByteArray) : Array Value := if 49 < wordN s then #[tok0, .int .i64 0, .int .i64 7] else #[tokV 1 (s.extract 0 (wordN s)) 0 0, .int .i64 (wordN s), .int .i64 0]

set_option maxHeartbeats 4000000 in
set_option maxRecDepth 100000 in
theorem readWord_any (s : ByteArray) (h0 : 0 < s.size) (hs : s.size ≤ 1000000) (w : World) : Calls Tryz.prog 55 #[.string s] w fun e w' => e = .returned (.tuple (readWordV s)) ∧ Below w.heap.size w w' := by
  obtain ⟨W, g, h, hW, hg, hh, R1, RT, B, sz⟩ := box2 w #[.string s] 9 #[.int .i64 0, .string ⟨#[]⟩, .int .i64 0, .int .i64 0] 40
  have HB0 := Lib.hid B
  have HG0 := Lib.hid R1
  have HT0 := Lib.hid RT
  have hwh : w.heap.size ≤ h := by omega
  obtain ⟨V, hV⟩ : ∃ V, V = wordN s := ⟨_, rfl⟩
  have hle := runF_le (fun k => wordB (byteI s k)) (s.size - 1) 1
  have hre := fun (W' : World) (hb : Below W.heap.size W W') => runEnd_any 71 #[.pointer (some ⟨g, 0, none⟩)] (fun k => wordB (byteI s k)) s 1 W' (by omega) (by omega) eg_word (fun W2 k hk hb2 => wordc_any s k g hk W2 ((HG0.out.keep (hb.trans (hb2.mono hb.size))).c 0 _ rfl))
  have hV2 : V = runF (fun k => wordB (byteI s k)) (s.size - 1) 1 := hV
  rw [← hV2] at hre hle
  have HRE := Lib.hid hre
  have HV := Lib.hid hV
  have v1 : (0 : Int) ≤ (V : Int) := by omega
  have v2 : (V : Int) ≤ (s.size : Int) := by omega
  clear R1 RT B sz hre hV hV2
  go_enter Tryz.func55, Tryz.ntmps55
  go_wp2_with fail
  rw [← hW]
  try rw [← hh]
  try rw [← hg]
  clear hW hg hh
  have g0 := HG0.out.c 0 _ rfl
  go_wp2_with fail
  refine (HRE.out _ (Below.refl _ _)).mono ?_
  rintro e w1 ⟨rfl, hb⟩
  have HB1 := Lib.hid (HB0.out.trans (hb.mono HB0.out.size))
  have HG1 := Lib.hid (HG0.out.keep hb)
  have HT1 := Lib.hid (HT0.out.keep hb)
  clear hb g0
  have g1 := HG1.out.c 0 _ rfl
  by_cases h49 : 49 < V
  · have HY := Lib.hid (show readWordV s = #[tok0, .int .i64 0, .int .i64 7] by unfold readWordV; rw [← HV.out]; exact if_pos h49)
    have h49' : (49 : Int) < (V : Int) := by omega
    have t_0 := HT1.out.c 0 _ rfl
    have t_1 := HT1.out.c 1 _ rfl
    have t_2 := HT1.out.c 2 _ rfl
    have t_3 := HT1.out.c 3 _ rfl
    have t_z := HT1.out.fz
    go_wp2_with fail
    have hs := (HT1.out).setRow [.int .i64 0, .string ⟨#[]⟩, .int .i64 0, .int .i64 0] rfl
    have y0 : ((((w1.setCell ⟨h, 0, none⟩ (.int .i64 0)).setCell ⟨h, 1, none⟩ (.string ⟨#[]⟩)).setCell ⟨h, 2, none⟩ (.int .i64 0)).setCell ⟨h, 3, none⟩ (.int .i64 0)).cell? ⟨h, 0, none⟩ = some (.int .i64 0) := hs.c 0 _ rfl
    have y1 : ((((w1.setCell ⟨h, 0, none⟩ (.int .i64 0)).setCell ⟨h, 1, none⟩ (.string ⟨#[]⟩)).setCell ⟨h, 2, none⟩ (.int .i64 0)).setCell ⟨h, 3, none⟩ (.int .i64 0)).cell? ⟨h, 1, none⟩ = some (.string ⟨#[]⟩) := hs.c 1 _ rfl
    have y2 : ((((w1.setCell ⟨h, 0, none⟩ (.int .i64 0)).setCell ⟨h, 1, none⟩ (.string ⟨#[]⟩)).setCell ⟨h, 2, none⟩ (.int .i64 0)).setCell ⟨h, 3, none⟩ (.int .i64 0)).cell? ⟨h, 2, none⟩ = some (.int .i64 0) := hs.c 2 _ rfl
    have y3 : ((((w1.setCell ⟨h, 0, none⟩ (.int .i64 0)).setCell ⟨h, 1, none⟩ (.string ⟨#[]⟩)).setCell ⟨h, 2, none⟩ (.int .i64 0)).setCell ⟨h, 3, none⟩ (.int .i64 0)).cell? ⟨h, 3, none⟩ = some (.int .i64 0) := hs.c 3 _ rfl
    (try simp only [Exit.inBlock, Exit.then])
    refine bodyPost_ret (by simp [results, Tryz.results55, go_sem, y0, y1, y2, y3]; try rfl) rfl ?_
    exact ⟨by rw [HY.out]; rfl, set_below HB1.out (by assumption) [.int .i64 0, .string ⟨#[]⟩, .int .i64 0, .int .i64 0]⟩
  · have HY := Lib.hid (show readWordV s = #[tokV 1 (s.extract 0 V) 0 0, .int .i64 V, .int .i64 0] by unfold readWordV; rw [← HV.out]; exact if_neg h49)
    have h49' : ¬ (49 : Int) < (V : Int) := by omega
    have t_0 := HT1.out.c 0 _ rfl
    have t_1 := HT1.out.c 1 _ rfl
    have t_2 := HT1.out.c 2 _ rfl
    have t_3 := HT1.out.c 3 _ rfl
    have t_z := HT1.out.fz
    go_wp2_with fail
    have hs := (HT1.out).setRow [.int .i64 1, .string (s.extract 0 V), .int .i64 0, .int .i64 0] rfl
    have y0 : ((((w1.setCell ⟨h, 0, none⟩ (.int .i64 1)).setCell ⟨h, 1, none⟩ (.string (s.extract 0 V))).setCell ⟨h, 2, none⟩ (.int .i64 0)).setCell ⟨h, 3, none⟩ (.int .i64 0)).cell? ⟨h, 0, none⟩ = some (.int .i64 1) := hs.c 0 _ rfl
    have y1 : ((((w1.setCell ⟨h, 0, none⟩ (.int .i64 1)).setCell ⟨h, 1, none⟩ (.string (s.extract 0 V))).setCell ⟨h, 2, none⟩ (.int .i64 0)).setCell ⟨h, 3, none⟩ (.int .i64 0)).cell? ⟨h, 1, none⟩ = some (.string (s.extract 0 V)) := hs.c 1 _ rfl
    have y2 : ((((w1.setCell ⟨h, 0, none⟩ (.int .i64 1)).setCell ⟨h, 1, none⟩ (.string (s.extract 0 V))).setCell ⟨h, 2, none⟩ (.int .i64 0)).setCell ⟨h, 3, none⟩ (.int .i64 0)).cell? ⟨h, 2, none⟩ = some (.int .i64 0) := hs.c 2 _ rfl
    have y3 : ((((w1.setCell ⟨h, 0, none⟩ (.int .i64 1)).setCell ⟨h, 1, none⟩ (.string (s.extract 0 V))).setCell ⟨h, 2, none⟩ (.int .i64 0)).setCell ⟨h, 3, none⟩ (.int .i64 0)).cell? ⟨h, 3, none⟩ = some (.int .i64 0) := hs.c 3 _ rfl
    (try simp only [Exit.inBlock, Exit.then])
    refine bodyPost_ret (by simp [results, Tryz.results55, go_sem, y0, y1, y2, y3]; try rfl) rfl ?_
    exact ⟨by rw [HY.out]; rfl, set_below HB1.out (by assumption) [.int .i64 1, .string (s.extract 0 V), .int .i64 0, .int .i64 0]⟩
end Go.Proofs.YtaaaddmdcldclaaGreatDoor
