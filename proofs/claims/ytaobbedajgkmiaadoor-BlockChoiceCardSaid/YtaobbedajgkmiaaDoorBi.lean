/- Contract of block.agree at names of the library. -/
import Derived.Test.YtaobbedajgkmiaaDoorBh
namespace Go.Proofs.YtaobbedajgkmiaaDoor
open Go.RowKit Go.Shelf

theorem below_drewN (B : Nat) (w : World) (n : Nat) : Below B w (w.drewN n) := ⟨rfl, rfl, rfl, Nat.le_refl _, fun _ _ => rfl⟩
theorem inB_two {x y : BndD} {ps : List Int} (h : inB [x, y] ps = true) : ∃ a b, ps = [a, b] ∧ x.lo ≤ a ∧ a ≤ x.hi ∧ y.lo ≤ b ∧ b ≤ y.hi := by
  match ps with
  | [] => simp [inB] at h
  | [a] => simp [inB] at h
  | [a, b] =>
    simp [inB] at h
    exact ⟨a, b, rfl, h.1.1, h.1.2, h.2.1, h.2.2⟩
  | a :: b :: c :: r => simp [inB] at h
def agLt : List Int → Bool
  | [a, b] => decide (b < a)
  | _ => true
def agLe : List Int → Bool
  | [a, b] => decide (a ≤ b)
  | _ => true
set_option maxHeartbeats 2000000 in
theorem agree_count (pl : List BndD) : AgreeOk ⟨#[99, 111, 117, 110, 116]⟩ pl (fun _ => true) := by
  intro a c ps w _ _
  go_enter Tryd.func32, Tryd.ntmps32
  go_wp2_with fail
  go_ret
  exact ⟨rfl, Below.refl _ _⟩
set_option maxHeartbeats 2000000 in
theorem agree_edge (pl : List BndD) : AgreeOk ⟨#[101, 100, 103, 101]⟩ pl (fun _ => true) := by
  intro a c ps w _ _
  go_enter Tryd.func32, Tryd.ntmps32
  go_wp2_with fail
  go_ret
  exact ⟨rfl, Below.refl _ _⟩
set_option maxHeartbeats 2000000 in
theorem agree_latch (pl : List BndD) : AgreeOk ⟨#[108, 97, 116, 99, 104]⟩ pl (fun _ => true) := by
  intro a c ps w _ _
  go_enter Tryd.func32, Tryd.ntmps32
  go_wp2_with fail
  go_ret
  exact ⟨rfl, Below.refl _ _⟩
set_option maxHeartbeats 2000000 in
theorem agree_minrun (pl : List BndD) : AgreeOk ⟨#[109, 105, 110, 114, 117, 110]⟩ pl (fun _ => true) := by
  intro a c ps w _ _
  go_enter Tryd.func32, Tryd.ntmps32
  go_wp2_with fail
  go_ret
  exact ⟨rfl, Below.refl _ _⟩
set_option maxHeartbeats 2000000 in
theorem agree_offdelay (pl : List BndD) : AgreeOk ⟨#[111, 102, 102, 100, 101, 108, 97, 121]⟩ pl (fun _ => true) := by
  intro a c ps w _ _
  go_enter Tryd.func32, Tryd.ntmps32
  go_wp2_with fail
  go_ret
  exact ⟨rfl, Below.refl _ _⟩
set_option maxHeartbeats 2000000 in
theorem agree_ondelay (pl : List BndD) : AgreeOk ⟨#[111, 110, 100, 101, 108, 97, 121]⟩ pl (fun _ => true) := by
  intro a c ps w _ _
  go_enter Tryd.func32, Tryd.ntmps32
  go_wp2_with fail
  go_ret
  exact ⟨rfl, Below.refl _ _⟩
set_option maxHeartbeats 2000000 in
theorem agree_pulse (pl : List BndD) : AgreeOk ⟨#[112, 117, 108, 115, 101]⟩ pl (fun _ => true) := by
  intro a c ps w _ _
  go_enter Tryd.func32, Tryd.ntmps32
  go_wp2_with fail
  go_ret
  exact ⟨rfl, Below.refl _ _⟩
set_option maxHeartbeats 2000000 in
theorem agree_hyst_at (b0 o c : Nat) (a b : Int) (w : World) (c0 : w.cell? ⟨b0, o, none⟩ = some (.int .i64 a)) (c1 : w.cell? ⟨b0, o + 1, none⟩ = some (.int .i64 b)) :
    Calls Tryd.prog 32 #[.string ⟨#[104, 121, 115, 116]⟩, .slice (some ⟨b0, o, none⟩) 2 c] w fun e w' => e = .returned (.bool (decide (b < a))) ∧ Below w.heap.size w w' := by
  go_enter Tryd.func32, Tryd.ntmps32
  go_wp2_with fail
  go_quiet ((fail))
  (try simp only [Exit.then])
  go_wp2_with fail
  go_ret
  exact ⟨rfl, below_drewN _ _ _⟩
theorem agree_hyst : AgreeOk ⟨#[104, 121, 115, 116]⟩ [⟨⟨#[111, 110]⟩, (-1000000000000), 1000000000000, 1000⟩, ⟨⟨#[111, 102, 102]⟩, (-1000000000000), 1000000000000, 0⟩] agLt := by
  intro pa pc ps w h hq
  obtain ⟨a, b, rfl, _, _, _, _⟩ := inB_two h
  obtain ⟨b0, o, rfl, hl, hc⟩ := InS.at iL_len hq (by simp)
  have c0 := hc 0 a rfl 0 _ rfl
  have c1 := hc 1 b rfl 0 _ rfl
  simp only [Nat.zero_mul, Nat.one_mul, Nat.add_zero] at c0 c1
  exact agree_hyst_at b0 o pc a b w c0 c1
set_option maxHeartbeats 2000000 in
theorem agree_limit_at (b0 o c : Nat) (a b : Int) (w : World) (c0 : w.cell? ⟨b0, o, none⟩ = some (.int .i64 a)) (c1 : w.cell? ⟨b0, o + 1, none⟩ = some (.int .i64 b)) :
    Calls Tryd.prog 32 #[.string ⟨#[108, 105, 109, 105, 116]⟩, .slice (some ⟨b0, o, none⟩) 2 c] w fun e w' => e = .returned (.bool (decide (a ≤ b))) ∧ Below w.heap.size w w' := by
  go_enter Tryd.func32, Tryd.ntmps32
  go_wp2_with fail
  go_quiet ((fail))
  (try simp only [Exit.then])
  go_wp2_with fail
  go_ret
  exact ⟨rfl, below_drewN _ _ _⟩
theorem agree_limit : AgreeOk ⟨#[108, 105, 109, 105, 116]⟩ [⟨⟨#[108, 111, 119]⟩, (-1000000000000), 1000000000000, (-1000000000000)⟩, ⟨⟨#[104, 105, 103, 104]⟩, (-1000000000000), 1000000000000, 1000000000000⟩] agLe := by
  intro pa pc ps w h hq
  obtain ⟨a, b, rfl, _, _, _, _⟩ := inB_two h
  obtain ⟨b0, o, rfl, hl, hc⟩ := InS.at iL_len hq (by simp)
  have c0 := hc 0 a rfl 0 _ rfl
  have c1 := hc 1 b rfl 0 _ rfl
  simp only [Nat.zero_mul, Nat.one_mul, Nat.add_zero] at c0 c1
  exact agree_limit_at b0 o pc a b w c0 c1
end Go.Proofs.YtaobbedajgkmiaaDoor
