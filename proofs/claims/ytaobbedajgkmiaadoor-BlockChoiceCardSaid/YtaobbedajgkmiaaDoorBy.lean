/- Find at stage and steps. -/
import Derived.Test.YtaobbedajgkmiaaDoorBf
import Derived.Deep.CutBlock
namespace Go.Proofs.YtaobbedajgkmiaaDoor
open Go.RowKit Go.Shelf

set_option maxHeartbeats 4000000 in
theorem bounds_stage : BoundsOk ⟨#[115, 116, 97, 103, 101]⟩ [⟨⟨#[115, 116, 97, 103, 101, 115]⟩, 1, 15, 1⟩, ⟨⟨#[117, 112]⟩, (-1000000000000), 1000000000000, 0⟩, ⟨⟨#[100, 111, 119, 110]⟩, (-1000000000000), 1000000000000, 0⟩, ⟨⟨#[117, 112, 100, 101, 108, 97, 121]⟩, 0, 86400, 0⟩, ⟨⟨#[100, 111, 119, 110, 100, 101, 108, 97, 121]⟩, 0, 86400, 0⟩] := by
  intro w
  have hmf : ∀ (fn : Fn) (first cap : Array Value) (w : World), (Instr.makeFunc fn first cap).run Tryd.prog w = .ok (.func fn first cap) w := fun _ _ _ _ => rfl
  obtain ⟨W, c, hW, hc, s, B, sz⟩ := box1 w #[.func (.func 76) #[] #[]] 102
  have HB := Lib.hid B
  have HC := Lib.hid s
  go_enter Tryd.func41, Tryd.ntmps41
  go_upto_region 4 with fail
  rw [← hW]
  try rw [← hc]
  clear hW hc s B sz
  have c0 := HC.out.c 0 _ rfl
  go_wp2_with fail
  refine (bound1_any ⟨#[115, 116, 97, 103, 101, 115]⟩ 1 15 1 _).mono ?_
  rintro e w1 ⟨rfl, hb⟩
  have HC1 := Lib.hid (HC.out.keep hb)
  have HB1 := Lib.hid (HB.out.trans (hb.mono HB.out.size))
  clear hb HC HB c0
  have c0 := HC1.out.c 0 _ rfl
  go_wp2_with fail
  refine (number_any ⟨#[117, 112]⟩ 0 c _ HC1.out).mono ?_
  rintro e w2 ⟨rfl, hb⟩
  have HC2 := Lib.hid (HC1.out.keep hb)
  have HB2 := Lib.hid (HB1.out.trans (hb.mono HB1.out.size))
  clear hb HC1 HB1 c0
  have c0 := HC2.out.c 0 _ rfl
  go_wp2_with fail
  refine (number_any ⟨#[100, 111, 119, 110]⟩ 0 c _ HC2.out).mono ?_
  rintro e w3 ⟨rfl, hb⟩
  have HC3 := Lib.hid (HC2.out.keep hb)
  have HB3 := Lib.hid (HB2.out.trans (hb.mono HB2.out.size))
  clear hb HC2 HB2 c0
  have c0 := HC3.out.c 0 _ rfl
  go_wp2_with fail
  refine (seconds_any ⟨#[117, 112, 100, 101, 108, 97, 121]⟩ c _ HC3.out).mono ?_
  rintro e w4 ⟨rfl, hb⟩
  have HC4 := Lib.hid (HC3.out.keep hb)
  have HB4 := Lib.hid (HB3.out.trans (hb.mono HB3.out.size))
  clear hb HC3 HB3 c0
  have c0 := HC4.out.c 0 _ rfl
  go_wp2_with fail
  refine (seconds_any ⟨#[100, 111, 119, 110, 100, 101, 108, 97, 121]⟩ c _ HC4.out).mono ?_
  rintro e w5 ⟨rfl, hb⟩
  have HC5 := Lib.hid (HC4.out.keep hb)
  have HB5 := Lib.hid (HB4.out.trans (hb.mono HB4.out.size))
  clear hb HC4 HB4 c0
  have c0 := HC5.out.c 0 _ rfl
  go_wp2_with fail
  go_ret
  exact ⟨_, rfl, World.ownsRow_lit w5 #[.string ⟨#[115, 116, 97, 103, 101, 115]⟩, .int .i64 1, .int .i64 15, .int .i64 1, .string ⟨#[117, 112]⟩, .int .i64 (-1000000000000), .int .i64 1000000000000, .int .i64 0, .string ⟨#[100, 111, 119, 110]⟩, .int .i64 (-1000000000000), .int .i64 1000000000000, .int .i64 0, .string ⟨#[117, 112, 100, 101, 108, 97, 121]⟩, .int .i64 0, .int .i64 86400, .int .i64 0, .string ⟨#[100, 111, 119, 110, 100, 101, 108, 97, 121]⟩, .int .i64 0, .int .i64 86400, .int .i64 0] 5 HB5.out.size (by unfold maxLen; omega) rfl, HB5.out.alloc HB5.out.size _⟩
set_option maxHeartbeats 4000000 in
theorem bounds_steps : BoundsOk ⟨#[115, 116, 101, 112, 115]⟩ [⟨⟨#[99, 111, 117, 110, 116]⟩, 1, 15, 1⟩, ⟨⟨#[108, 101, 97, 115, 116]⟩, 0, 86400, 0⟩] := by
  intro w
  have hmf : ∀ (fn : Fn) (first cap : Array Value) (w : World), (Instr.makeFunc fn first cap).run Tryd.prog w = .ok (.func fn first cap) w := fun _ _ _ _ => rfl
  obtain ⟨W, c, hW, hc, s, B, sz⟩ := box1 w #[.func (.func 76) #[] #[]] 102
  have HB := Lib.hid B
  have HC := Lib.hid s
  go_enter Tryd.func41, Tryd.ntmps41
  go_upto_region 4 with fail
  rw [← hW]
  try rw [← hc]
  clear hW hc s B sz
  have c0 := HC.out.c 0 _ rfl
  go_wp2_with fail
  refine (bound1_any ⟨#[99, 111, 117, 110, 116]⟩ 1 15 1 _).mono ?_
  rintro e w1 ⟨rfl, hb⟩
  have HC1 := Lib.hid (HC.out.keep hb)
  have HB1 := Lib.hid (HB.out.trans (hb.mono HB.out.size))
  clear hb HC HB c0
  have c0 := HC1.out.c 0 _ rfl
  go_wp2_with fail
  refine (seconds_any ⟨#[108, 101, 97, 115, 116]⟩ c _ HC1.out).mono ?_
  rintro e w2 ⟨rfl, hb⟩
  have HC2 := Lib.hid (HC1.out.keep hb)
  have HB2 := Lib.hid (HB1.out.trans (hb.mono HB1.out.size))
  clear hb HC1 HB1 c0
  have c0 := HC2.out.c 0 _ rfl
  go_wp2_with fail
  go_ret
  exact ⟨_, rfl, World.ownsRow_lit w2 #[.string ⟨#[99, 111, 117, 110, 116]⟩, .int .i64 1, .int .i64 15, .int .i64 1, .string ⟨#[108, 101, 97, 115, 116]⟩, .int .i64 0, .int .i64 86400, .int .i64 0] 2 HB2.out.size (by unfold maxLen; omega) rfl, HB2.out.alloc HB2.out.size _⟩
theorem row_stage : RowOk ⟨⟨#[115, 116, 97, 103, 101]⟩, ⟨#[97, 58, 32, 85]⟩, ⟨#[109, 117, 108, 116, 105]⟩, 1, 2⟩ [⟨⟨#[115, 116, 97, 103, 101, 115]⟩, 1, 15, 1⟩, ⟨⟨#[117, 112]⟩, (-1000000000000), 1000000000000, 0⟩, ⟨⟨#[100, 111, 119, 110]⟩, (-1000000000000), 1000000000000, 0⟩, ⟨⟨#[117, 112, 100, 101, 108, 97, 121]⟩, 0, 86400, 0⟩, ⟨⟨#[100, 111, 119, 110, 100, 101, 108, 97, 121]⟩, 0, 86400, 0⟩] [⟨⟨#[97]⟩, ⟨#[85]⟩⟩] := row_ok _ _ _ _ bounds_stage split_1 rfl (by decide) cuts_1
theorem find_stage : FindOk ⟨#[115, 116, 97, 103, 101]⟩ ⟨#[109, 117, 108, 116, 105]⟩ 1 2 [⟨⟨#[115, 116, 97, 103, 101, 115]⟩, 1, 15, 1⟩, ⟨⟨#[117, 112]⟩, (-1000000000000), 1000000000000, 0⟩, ⟨⟨#[100, 111, 119, 110]⟩, (-1000000000000), 1000000000000, 0⟩, ⟨⟨#[117, 112, 100, 101, 108, 97, 121]⟩, 0, 86400, 0⟩, ⟨⟨#[100, 111, 119, 110, 100, 101, 108, 97, 121]⟩, 0, 86400, 0⟩] [⟨⟨#[97]⟩, ⟨#[85]⟩⟩] := fun w hm => find_any 29 (by decide) _ _ _ (by kernel_rfl) (by decide +kernel) row_stage w hm
theorem row_steps : RowOk ⟨⟨#[115, 116, 101, 112, 115]⟩, ⟨#[103, 111, 58, 32, 98, 105, 110, 97, 114, 121, 44, 32, 110, 101, 120, 116, 58, 32, 98, 105, 110, 97, 114, 121]⟩, ⟨#[109, 117, 108, 116, 105]⟩, 1, 2⟩ [⟨⟨#[99, 111, 117, 110, 116]⟩, 1, 15, 1⟩, ⟨⟨#[108, 101, 97, 115, 116]⟩, 0, 86400, 0⟩] [⟨⟨#[103, 111]⟩, ⟨#[98, 105, 110, 97, 114, 121]⟩⟩, ⟨⟨#[110, 101, 120, 116]⟩, ⟨#[98, 105, 110, 97, 114, 121]⟩⟩] := row_ok _ _ _ _ bounds_steps split_11 rfl (by decide) cuts_11
theorem find_steps : FindOk ⟨#[115, 116, 101, 112, 115]⟩ ⟨#[109, 117, 108, 116, 105]⟩ 1 2 [⟨⟨#[99, 111, 117, 110, 116]⟩, 1, 15, 1⟩, ⟨⟨#[108, 101, 97, 115, 116]⟩, 0, 86400, 0⟩] [⟨⟨#[103, 111]⟩, ⟨#[98, 105, 110, 97, 114, 121]⟩⟩, ⟨⟨#[110, 101, 120, 116]⟩, ⟨#[98, 105, 110, 97, 114, 121]⟩⟩] := fun w hm => find_any 30 (by decide) _ _ _ (by kernel_rfl) (by decide +kernel) row_steps w hm
end Go.Proofs.YtaobbedajgkmiaaDoor
