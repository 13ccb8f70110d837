/- Contract of block.agree at the other names of the library. -/
import Derived.Test.YtaobbedajgkmiaaDoorBi
namespace Go.Proofs.YtaobbedajgkmiaaDoor
open Go.RowKit Go.Shelf

set_option linter.unusedVariables false
set_option linter.unusedSimpArgs false
def agLine : List Int → Bool
  | [a, _, c, _] => decide (a < c)
  | _ => true
def agPid : List Int → Bool
  | [_, _, a, b, _] => decide (a ≤ b)
  | _ => true
theorem inB_lens : ∀ {pl : List BndD} {ps : List Int}, inB pl ps = true → ps.length = pl.length
  | [], [], _ => rfl
  | [], _ :: _, h => by simp [inB] at h
  | _ :: _, [], h => by simp [inB] at h
  | x :: pl, a :: ps, h => by
    have h2 : inB pl ps = true := by simp [inB] at h; exact h.2
    rw [List.length_cons, List.length_cons, inB_lens h2]
set_option maxHeartbeats 2000000 in
theorem agree_above (pl : List BndD) : AgreeOk ⟨#[97, 98, 111, 118, 101]⟩ pl (fun _ => true) := by
  intro a c ps w _ _
  go_enter Tryd.func32, Tryd.ntmps32
  go_wp2_with fail
  go_ret
  exact ⟨rfl, Below.refl _ _⟩
set_option maxHeartbeats 2000000 in
theorem agree_abs (pl : List BndD) : AgreeOk ⟨#[97, 98, 115]⟩ pl (fun _ => true) := by
  intro a c ps w _ _
  go_enter Tryd.func32, Tryd.ntmps32
  go_wp2_with fail
  go_ret
  exact ⟨rfl, Below.refl _ _⟩
set_option maxHeartbeats 2000000 in
theorem agree_add (pl : List BndD) : AgreeOk ⟨#[97, 100, 100]⟩ pl (fun _ => true) := by
  intro a c ps w _ _
  go_enter Tryd.func32, Tryd.ntmps32
  go_wp2_with fail
  go_ret
  exact ⟨rfl, Below.refl _ _⟩
set_option maxHeartbeats 2000000 in
theorem agree_and (pl : List BndD) : AgreeOk ⟨#[97, 110, 100]⟩ pl (fun _ => true) := by
  intro a c ps w _ _
  go_enter Tryd.func32, Tryd.ntmps32
  go_wp2_with fail
  go_ret
  exact ⟨rfl, Below.refl _ _⟩
set_option maxHeartbeats 2000000 in
theorem agree_below (pl : List BndD) : AgreeOk ⟨#[98, 101, 108, 111, 119]⟩ pl (fun _ => true) := by
  intro a c ps w _ _
  go_enter Tryd.func32, Tryd.ntmps32
  go_wp2_with fail
  go_ret
  exact ⟨rfl, Below.refl _ _⟩
set_option maxHeartbeats 2000000 in
theorem agree_choose (pl : List BndD) : AgreeOk ⟨#[99, 104, 111, 111, 115, 101]⟩ pl (fun _ => true) := by
  intro a c ps w _ _
  go_enter Tryd.func32, Tryd.ntmps32
  go_wp2_with fail
  go_ret
  exact ⟨rfl, Below.refl _ _⟩
set_option maxHeartbeats 2000000 in
theorem agree_dewpoint (pl : List BndD) : AgreeOk ⟨#[100, 101, 119, 112, 111, 105, 110, 116]⟩ pl (fun _ => true) := by
  intro a c ps w _ _
  go_enter Tryd.func32, Tryd.ntmps32
  go_wp2_with fail
  go_ret
  exact ⟨rfl, Below.refl _ _⟩
set_option maxHeartbeats 2000000 in
theorem agree_div (pl : List BndD) : AgreeOk ⟨#[100, 105, 118]⟩ pl (fun _ => true) := by
  intro a c ps w _ _
  go_enter Tryd.func32, Tryd.ntmps32
  go_wp2_with fail
  go_ret
  exact ⟨rfl, Below.refl _ _⟩
set_option maxHeartbeats 2000000 in
theorem agree_enthalpy (pl : List BndD) : AgreeOk ⟨#[101, 110, 116, 104, 97, 108, 112, 121]⟩ pl (fun _ => true) := by
  intro a c ps w _ _
  go_enter Tryd.func32, Tryd.ntmps32
  go_wp2_with fail
  go_ret
  exact ⟨rfl, Below.refl _ _⟩
set_option maxHeartbeats 2000000 in
theorem agree_max (pl : List BndD) : AgreeOk ⟨#[109, 97, 120]⟩ pl (fun _ => true) := by
  intro a c ps w _ _
  go_enter Tryd.func32, Tryd.ntmps32
  go_wp2_with fail
  go_ret
  exact ⟨rfl, Below.refl _ _⟩
set_option maxHeartbeats 2000000 in
theorem agree_mean (pl : List BndD) : AgreeOk ⟨#[109, 101, 97, 110]⟩ pl (fun _ => true) := by
  intro a c ps w _ _
  go_enter Tryd.func32, Tryd.ntmps32
  go_wp2_with fail
  go_ret
  exact ⟨rfl, Below.refl _ _⟩
set_option maxHeartbeats 2000000 in
theorem agree_min (pl : List BndD) : AgreeOk ⟨#[109, 105, 110]⟩ pl (fun _ => true) := by
  intro a c ps w _ _
  go_enter Tryd.func32, Tryd.ntmps32
  go_wp2_with fail
  go_ret
  exact ⟨rfl, Below.refl _ _⟩
set_option maxHeartbeats 2000000 in
theorem agree_mul (pl : List BndD) : AgreeOk ⟨#[109, 117, 108]⟩ pl (fun _ => true) := by
  intro a c ps w _ _
  go_enter Tryd.func32, Tryd.ntmps32
  go_wp2_with fail
  go_ret
  exact ⟨rfl, Below.refl _ _⟩
set_option maxHeartbeats 2000000 in
theorem agree_neg (pl : List BndD) : AgreeOk ⟨#[110, 101, 103]⟩ pl (fun _ => true) := by
  intro a c ps w _ _
  go_enter Tryd.func32, Tryd.ntmps32
  go_wp2_with fail
  go_ret
  exact ⟨rfl, Below.refl _ _⟩
set_option maxHeartbeats 2000000 in
theorem agree_not (pl : List BndD) : AgreeOk ⟨#[110, 111, 116]⟩ pl (fun _ => true) := by
  intro a c ps w _ _
  go_enter Tryd.func32, Tryd.ntmps32
  go_wp2_with fail
  go_ret
  exact ⟨rfl, Below.refl _ _⟩
set_option maxHeartbeats 2000000 in
theorem agree_or (pl : List BndD) : AgreeOk ⟨#[111, 114]⟩ pl (fun _ => true) := by
  intro a c ps w _ _
  go_enter Tryd.func32, Tryd.ntmps32
  go_wp2_with fail
  go_ret
  exact ⟨rfl, Below.refl _ _⟩
set_option maxHeartbeats 2000000 in
theorem agree_pick (pl : List BndD) : AgreeOk ⟨#[112, 105, 99, 107]⟩ pl (fun _ => true) := by
  intro a c ps w _ _
  go_enter Tryd.func32, Tryd.ntmps32
  go_wp2_with fail
  go_ret
  exact ⟨rfl, Below.refl _ _⟩
set_option maxHeartbeats 2000000 in
theorem agree_rate (pl : List BndD) : AgreeOk ⟨#[114, 97, 116, 101]⟩ pl (fun _ => true) := by
  intro a c ps w _ _
  go_enter Tryd.func32, Tryd.ntmps32
  go_wp2_with fail
  go_ret
  exact ⟨rfl, Below.refl _ _⟩
set_option maxHeartbeats 2000000 in
theorem agree_sub (pl : List BndD) : AgreeOk ⟨#[115, 117, 98]⟩ pl (fun _ => true) := by
  intro a c ps w _ _
  go_enter Tryd.func32, Tryd.ntmps32
  go_wp2_with fail
  go_ret
  exact ⟨rfl, Below.refl _ _⟩
set_option maxHeartbeats 2000000 in
theorem agree_xor (pl : List BndD) : AgreeOk ⟨#[120, 111, 114]⟩ pl (fun _ => true) := by
  intro a c ps w _ _
  go_enter Tryd.func32, Tryd.ntmps32
  go_wp2_with fail
  go_ret
  exact ⟨rfl, Below.refl _ _⟩
set_option maxHeartbeats 2000000 in
theorem agree_stage (pl : List BndD) : AgreeOk ⟨#[115, 116, 97, 103, 101]⟩ pl (fun _ => true) := by
  intro a c ps w _ _
  go_enter Tryd.func32, Tryd.ntmps32
  go_wp2_with fail
  go_ret
  exact ⟨rfl, Below.refl _ _⟩
set_option maxHeartbeats 2000000 in
theorem agree_steps (pl : List BndD) : AgreeOk ⟨#[115, 116, 101, 112, 115]⟩ pl (fun _ => true) := by
  intro a c ps w _ _
  go_enter Tryd.func32, Tryd.ntmps32
  go_wp2_with fail
  go_ret
  exact ⟨rfl, Below.refl _ _⟩
set_option maxHeartbeats 2000000 in
theorem agree_line_at (b0 o c : Nat) (a b : Int) (w : World) (c0 : w.cell? ⟨b0, o, none⟩ = some (.int .i64 a)) (c1 : w.cell? ⟨b0, o + 2, none⟩ = some (.int .i64 b)) :
    Calls Tryd.prog 32 #[.string ⟨#[108, 105, 110, 101]⟩, .slice (some ⟨b0, o, none⟩) 4 c] w fun e w' => e = .returned (.bool (decide (a < b))) ∧ Below w.heap.size w w' := by
  go_enter Tryd.func32, Tryd.ntmps32
  go_wp2_with fail
  go_quiet ((fail))
  (try simp only [Exit.then])
  go_wp2_with fail
  go_ret
  exact ⟨rfl, below_drewN _ _ _⟩
theorem agree_line : AgreeOk ⟨#[108, 105, 110, 101]⟩ [⟨⟨#[120, 49]⟩, (-1000000000000), 1000000000000, 0⟩, ⟨⟨#[121, 49]⟩, (-1000000000000), 1000000000000, 0⟩, ⟨⟨#[120, 50]⟩, (-1000000000000), 1000000000000, 100000⟩, ⟨⟨#[121, 50]⟩, (-1000000000000), 1000000000000, 100000⟩] agLine := by
  intro pa pc ps w h hq
  have hl := inB_lens h
  obtain ⟨a, x1, b, x3, rfl⟩ : ∃ a x1 b x3, ps = [a, x1, b, x3] := by
    match ps, hl with
    | [a, x1, b, x3], _ => exact ⟨_, _, _, _, rfl⟩
  obtain ⟨b0, o, rfl, _, hc⟩ := InS.at iL_len hq (by simp)
  have c0 := hc 0 a rfl 0 _ rfl
  have c1 := hc 2 b rfl 0 _ rfl
  simp only [Nat.zero_mul, Nat.mul_one, Nat.one_mul, Nat.add_zero] at c0 c1
  exact agree_line_at b0 o pc a b w c0 c1
set_option maxHeartbeats 2000000 in
theorem agree_pid_at (b0 o c : Nat) (a b : Int) (w : World) (c0 : w.cell? ⟨b0, o + 2, none⟩ = some (.int .i64 a)) (c1 : w.cell? ⟨b0, o + 3, none⟩ = some (.int .i64 b)) :
    Calls Tryd.prog 32 #[.string ⟨#[112, 105, 100]⟩, .slice (some ⟨b0, o, none⟩) 5 c] w fun e w' => e = .returned (.bool (decide (a ≤ b))) ∧ Below w.heap.size w w' := by
  go_enter Tryd.func32, Tryd.ntmps32
  go_wp2_with fail
  go_quiet ((fail))
  (try simp only [Exit.then])
  go_wp2_with fail
  go_ret
  exact ⟨rfl, below_drewN _ _ _⟩
theorem agree_pid : AgreeOk ⟨#[112, 105, 100]⟩ [⟨⟨#[107, 112]⟩, 0, 1000000000, 1000⟩, ⟨⟨#[116, 105]⟩, 0, 86400, 0⟩, ⟨⟨#[108, 111, 119]⟩, (-1000000000000), 1000000000000, 0⟩, ⟨⟨#[104, 105, 103, 104]⟩, (-1000000000000), 1000000000000, 100000⟩, ⟨⟨#[114, 101, 118, 101, 114, 115, 101]⟩, 0, 1, 0⟩] agPid := by
  intro pa pc ps w h hq
  have hl := inB_lens h
  obtain ⟨x0, x1, a, b, x4, rfl⟩ : ∃ x0 x1 a b x4, ps = [x0, x1, a, b, x4] := by
    match ps, hl with
    | [x0, x1, a, b, x4], _ => exact ⟨_, _, _, _, _, rfl⟩
  obtain ⟨b0, o, rfl, _, hc⟩ := InS.at iL_len hq (by simp)
  have c0 := hc 2 a rfl 0 _ rfl
  have c1 := hc 3 b rfl 0 _ rfl
  simp only [Nat.zero_mul, Nat.mul_one, Nat.one_mul, Nat.add_zero] at c0 c1
  exact agree_pid_at b0 o pc a b w c0 c1
end Go.Proofs.YtaobbedajgkmiaaDoor
