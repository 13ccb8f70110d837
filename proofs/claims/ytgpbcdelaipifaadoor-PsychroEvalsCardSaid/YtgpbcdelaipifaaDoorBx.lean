/- Find at enthalpy and dewpoint. -/
import Derived.Test.YtgpbcdelaipifaaDoorBf
import Derived.Deep.CutBlock
namespace Go.Proofs.YtgpbcdelaipifaaDoor
open Go.RowKit Go.Shelf

set_option maxHeartbeats 2000000 in
theorem bounds_dewpoint : BoundsOk ⟨#[100, 101, 119, 112, 111, 105, 110, 116]⟩ [] := by
  intro w
  have hmf : ∀ (fn : Fn) (first cap : Array Value) (w : World), (Instr.makeFunc fn first cap).run Tryd.prog w = .ok (.func fn first cap) w := fun _ _ _ _ => rfl
  obtain ⟨W, c, hW, hc, s, B, sz⟩ := box1 w #[.func (.func 73) #[] #[]] 90
  have HB := Lib.hid B
  have HC := Lib.hid s
  go_enter Tryd.func69, Tryd.ntmps69
  go_upto_region 4 with fail
  rw [← hW]
  try rw [← hc]
  clear hW hc s B sz
  go_wp2_with fail
  go_ret
  exact ⟨_, rfl, World.ownsRow_nil _ _ _ _, HB.out⟩
set_option maxHeartbeats 2000000 in
theorem bounds_enthalpy : BoundsOk ⟨#[101, 110, 116, 104, 97, 108, 112, 121]⟩ [] := by
  intro w
  have hmf : ∀ (fn : Fn) (first cap : Array Value) (w : World), (Instr.makeFunc fn first cap).run Tryd.prog w = .ok (.func fn first cap) w := fun _ _ _ _ => rfl
  obtain ⟨W, c, hW, hc, s, B, sz⟩ := box1 w #[.func (.func 73) #[] #[]] 90
  have HB := Lib.hid B
  have HC := Lib.hid s
  go_enter Tryd.func69, Tryd.ntmps69
  go_upto_region 4 with fail
  rw [← hW]
  try rw [← hc]
  clear hW hc s B sz
  go_wp2_with fail
  go_ret
  exact ⟨_, rfl, World.ownsRow_nil _ _ _ _, HB.out⟩
theorem row_dewpoint : RowOk ⟨⟨#[100, 101, 119, 112, 111, 105, 110, 116]⟩, ⟨#[116, 58, 32, 97, 110, 97, 108, 111, 103, 32, 100, 101, 103, 67, 44, 32, 114, 104, 58, 32, 97, 110, 97, 108, 111, 103, 32, 112, 99, 116]⟩, ⟨#[97, 110, 97, 108, 111, 103, 32, 100, 101, 103, 67]⟩, 1, 0⟩ [] [⟨⟨#[116]⟩, ⟨#[97, 110, 97, 108, 111, 103, 32, 100, 101, 103, 67]⟩⟩, ⟨⟨#[114, 104]⟩, ⟨#[97, 110, 97, 108, 111, 103, 32, 112, 99, 116]⟩⟩] := row_ok _ _ _ _ bounds_dewpoint split_5 rfl (by decide) cuts_5
theorem find_dewpoint : FindOk ⟨#[100, 101, 119, 112, 111, 105, 110, 116]⟩ ⟨#[97, 110, 97, 108, 111, 103, 32, 100, 101, 103, 67]⟩ 1 0 [] [⟨⟨#[116]⟩, ⟨#[97, 110, 97, 108, 111, 103, 32, 100, 101, 103, 67]⟩⟩, ⟨⟨#[114, 104]⟩, ⟨#[97, 110, 97, 108, 111, 103, 32, 112, 99, 116]⟩⟩] := fun w hm => find_any 7 (by decide) _ _ _ (by kernel_rfl) (by decide +kernel) row_dewpoint w hm
theorem row_enthalpy : RowOk ⟨⟨#[101, 110, 116, 104, 97, 108, 112, 121]⟩, ⟨#[116, 58, 32, 97, 110, 97, 108, 111, 103, 32, 100, 101, 103, 67, 44, 32, 114, 104, 58, 32, 97, 110, 97, 108, 111, 103, 32, 112, 99, 116]⟩, ⟨#[97, 110, 97, 108, 111, 103, 32, 107, 74, 47, 107, 103]⟩, 1, 0⟩ [] [⟨⟨#[116]⟩, ⟨#[97, 110, 97, 108, 111, 103, 32, 100, 101, 103, 67]⟩⟩, ⟨⟨#[114, 104]⟩, ⟨#[97, 110, 97, 108, 111, 103, 32, 112, 99, 116]⟩⟩] := row_ok _ _ _ _ bounds_enthalpy split_5 rfl (by decide) cuts_5
theorem find_enthalpy : FindOk ⟨#[101, 110, 116, 104, 97, 108, 112, 121]⟩ ⟨#[97, 110, 97, 108, 111, 103, 32, 107, 74, 47, 107, 103]⟩ 1 0 [] [⟨⟨#[116]⟩, ⟨#[97, 110, 97, 108, 111, 103, 32, 100, 101, 103, 67]⟩⟩, ⟨⟨#[114, 104]⟩, ⟨#[97, 110, 97, 108, 111, 103, 32, 112, 99, 116]⟩⟩] := fun w hm => find_any 10 (by decide) _ _ _ (by kernel_rfl) (by decide +kernel) row_enthalpy w hm
end Go.Proofs.YtgpbcdelaipifaaDoor
