/- Find at the other names of the library, and at a name that is none. -/
import Derived.Test.YtaobbedajgkmiaaDoorBy
import Derived.Deep.CutBlock
namespace Go.Proofs.YtaobbedajgkmiaaDoor
open Go.RowKit Go.Shelf

set_option linter.unusedVariables false
set_option linter.unusedSimpArgs false
set_option maxHeartbeats 4000000 in
theorem bounds_above : BoundsOk ⟨#[97, 98, 111, 118, 101]⟩ [] := by
  intro w
  have hmf : ∀ (fn : Fn) (first cap : Array Value) (w : World), (Instr.makeFunc fn first cap).run Tryd.prog w = .ok (.func fn first cap) w := fun _ _ _ _ => rfl
  obtain ⟨W, c, hW, hc, s, B, sz⟩ := box1 w #[.func (.func 76) #[] #[]] 102
  have HB := Lib.hid B
  have HC := Lib.hid s
  go_enter Tryd.func41, Tryd.ntmps41
  go_upto_region 4 with fail
  rw [← hW]
  try rw [← hc]
  clear hW hc s B sz
  have c0 := HC.out.c 0 _ rfl
  go_wp2_with fail
  go_ret
  exact ⟨_, rfl, World.ownsRow_nil _ _ _ _, HB.out⟩
set_option maxHeartbeats 4000000 in
theorem bounds_abs : BoundsOk ⟨#[97, 98, 115]⟩ [] := by
  intro w
  have hmf : ∀ (fn : Fn) (first cap : Array Value) (w : World), (Instr.makeFunc fn first cap).run Tryd.prog w = .ok (.func fn first cap) w := fun _ _ _ _ => rfl
  obtain ⟨W, c, hW, hc, s, B, sz⟩ := box1 w #[.func (.func 76) #[] #[]] 102
  have HB := Lib.hid B
  have HC := Lib.hid s
  go_enter Tryd.func41, Tryd.ntmps41
  go_upto_region 4 with fail
  rw [← hW]
  try rw [← hc]
  clear hW hc s B sz
  have c0 := HC.out.c 0 _ rfl
  go_wp2_with fail
  go_ret
  exact ⟨_, rfl, World.ownsRow_nil _ _ _ _, HB.out⟩
set_option maxHeartbeats 4000000 in
theorem bounds_add : BoundsOk ⟨#[97, 100, 100]⟩ [] := by
  intro w
  have hmf : ∀ (fn : Fn) (first cap : Array Value) (w : World), (Instr.makeFunc fn first cap).run Tryd.prog w = .ok (.func fn first cap) w := fun _ _ _ _ => rfl
  obtain ⟨W, c, hW, hc, s, B, sz⟩ := box1 w #[.func (.func 76) #[] #[]] 102
  have HB := Lib.hid B
  have HC := Lib.hid s
  go_enter Tryd.func41, Tryd.ntmps41
  go_upto_region 4 with fail
  rw [← hW]
  try rw [← hc]
  clear hW hc s B sz
  have c0 := HC.out.c 0 _ rfl
  go_wp2_with fail
  go_ret
  exact ⟨_, rfl, World.ownsRow_nil _ _ _ _, HB.out⟩
set_option maxHeartbeats 4000000 in
theorem bounds_and : BoundsOk ⟨#[97, 110, 100]⟩ [] := by
  intro w
  have hmf : ∀ (fn : Fn) (first cap : Array Value) (w : World), (Instr.makeFunc fn first cap).run Tryd.prog w = .ok (.func fn first cap) w := fun _ _ _ _ => rfl
  obtain ⟨W, c, hW, hc, s, B, sz⟩ := box1 w #[.func (.func 76) #[] #[]] 102
  have HB := Lib.hid B
  have HC := Lib.hid s
  go_enter Tryd.func41, Tryd.ntmps41
  go_upto_region 4 with fail
  rw [← hW]
  try rw [← hc]
  clear hW hc s B sz
  have c0 := HC.out.c 0 _ rfl
  go_wp2_with fail
  go_ret
  exact ⟨_, rfl, World.ownsRow_nil _ _ _ _, HB.out⟩
set_option maxHeartbeats 4000000 in
theorem bounds_below : BoundsOk ⟨#[98, 101, 108, 111, 119]⟩ [] := by
  intro w
  have hmf : ∀ (fn : Fn) (first cap : Array Value) (w : World), (Instr.makeFunc fn first cap).run Tryd.prog w = .ok (.func fn first cap) w := fun _ _ _ _ => rfl
  obtain ⟨W, c, hW, hc, s, B, sz⟩ := box1 w #[.func (.func 76) #[] #[]] 102
  have HB := Lib.hid B
  have HC := Lib.hid s
  go_enter Tryd.func41, Tryd.ntmps41
  go_upto_region 4 with fail
  rw [← hW]
  try rw [← hc]
  clear hW hc s B sz
  have c0 := HC.out.c 0 _ rfl
  go_wp2_with fail
  go_ret
  exact ⟨_, rfl, World.ownsRow_nil _ _ _ _, HB.out⟩
set_option maxHeartbeats 4000000 in
theorem bounds_choose : BoundsOk ⟨#[99, 104, 111, 111, 115, 101]⟩ [] := by
  intro w
  have hmf : ∀ (fn : Fn) (first cap : Array Value) (w : World), (Instr.makeFunc fn first cap).run Tryd.prog w = .ok (.func fn first cap) w := fun _ _ _ _ => rfl
  obtain ⟨W, c, hW, hc, s, B, sz⟩ := box1 w #[.func (.func 76) #[] #[]] 102
  have HB := Lib.hid B
  have HC := Lib.hid s
  go_enter Tryd.func41, Tryd.ntmps41
  go_upto_region 4 with fail
  rw [← hW]
  try rw [← hc]
  clear hW hc s B sz
  have c0 := HC.out.c 0 _ rfl
  go_wp2_with fail
  go_ret
  exact ⟨_, rfl, World.ownsRow_nil _ _ _ _, HB.out⟩
set_option maxHeartbeats 4000000 in
theorem bounds_dewpoint : BoundsOk ⟨#[100, 101, 119, 112, 111, 105, 110, 116]⟩ [] := by
  intro w
  have hmf : ∀ (fn : Fn) (first cap : Array Value) (w : World), (Instr.makeFunc fn first cap).run Tryd.prog w = .ok (.func fn first cap) w := fun _ _ _ _ => rfl
  obtain ⟨W, c, hW, hc, s, B, sz⟩ := box1 w #[.func (.func 76) #[] #[]] 102
  have HB := Lib.hid B
  have HC := Lib.hid s
  go_enter Tryd.func41, Tryd.ntmps41
  go_upto_region 4 with fail
  rw [← hW]
  try rw [← hc]
  clear hW hc s B sz
  have c0 := HC.out.c 0 _ rfl
  go_wp2_with fail
  go_ret
  exact ⟨_, rfl, World.ownsRow_nil _ _ _ _, HB.out⟩
set_option maxHeartbeats 4000000 in
theorem bounds_div : BoundsOk ⟨#[100, 105, 118]⟩ [] := by
  intro w
  have hmf : ∀ (fn : Fn) (first cap : Array Value) (w : World), (Instr.makeFunc fn first cap).run Tryd.prog w = .ok (.func fn first cap) w := fun _ _ _ _ => rfl
  obtain ⟨W, c, hW, hc, s, B, sz⟩ := box1 w #[.func (.func 76) #[] #[]] 102
  have HB := Lib.hid B
  have HC := Lib.hid s
  go_enter Tryd.func41, Tryd.ntmps41
  go_upto_region 4 with fail
  rw [← hW]
  try rw [← hc]
  clear hW hc s B sz
  have c0 := HC.out.c 0 _ rfl
  go_wp2_with fail
  go_ret
  exact ⟨_, rfl, World.ownsRow_nil _ _ _ _, HB.out⟩
set_option maxHeartbeats 4000000 in
theorem bounds_enthalpy : BoundsOk ⟨#[101, 110, 116, 104, 97, 108, 112, 121]⟩ [] := by
  intro w
  have hmf : ∀ (fn : Fn) (first cap : Array Value) (w : World), (Instr.makeFunc fn first cap).run Tryd.prog w = .ok (.func fn first cap) w := fun _ _ _ _ => rfl
  obtain ⟨W, c, hW, hc, s, B, sz⟩ := box1 w #[.func (.func 76) #[] #[]] 102
  have HB := Lib.hid B
  have HC := Lib.hid s
  go_enter Tryd.func41, Tryd.ntmps41
  go_upto_region 4 with fail
  rw [← hW]
  try rw [← hc]
  clear hW hc s B sz
  have c0 := HC.out.c 0 _ rfl
  go_wp2_with fail
  go_ret
  exact ⟨_, rfl, World.ownsRow_nil _ _ _ _, HB.out⟩
set_option maxHeartbeats 4000000 in
theorem bounds_line : BoundsOk ⟨#[108, 105, 110, 101]⟩ [⟨⟨#[120, 49]⟩, (-1000000000000), 1000000000000, 0⟩, ⟨⟨#[121, 49]⟩, (-1000000000000), 1000000000000, 0⟩, ⟨⟨#[120, 50]⟩, (-1000000000000), 1000000000000, 100000⟩, ⟨⟨#[121, 50]⟩, (-1000000000000), 1000000000000, 100000⟩] := by
  intro w
  have hmf : ∀ (fn : Fn) (first cap : Array Value) (w : World), (Instr.makeFunc fn first cap).run Tryd.prog w = .ok (.func fn first cap) w := fun _ _ _ _ => rfl
  obtain ⟨W, c, hW, hc, s, B, sz⟩ := box1 w #[.func (.func 76) #[] #[]] 102
  have HB := Lib.hid B
  have HC := Lib.hid s
  go_enter Tryd.func41, Tryd.ntmps41
  go_upto_region 4 with fail
  rw [← hW]
  try rw [← hc]
  clear hW hc s B sz
  have c0 := HC.out.c 0 _ rfl
  go_wp2_with fail
  refine (number_any ⟨#[120, 49]⟩ 0 c _ HC.out).mono ?_
  rintro e w1 ⟨rfl, hb⟩
  have HC1 := Lib.hid (HC.out.keep hb)
  have HB1 := Lib.hid (HB.out.trans (hb.mono HB.out.size))
  clear hb HC HB c0
  have c0 := HC1.out.c 0 _ rfl
  go_wp2_with fail
  refine (number_any ⟨#[121, 49]⟩ 0 c _ HC1.out).mono ?_
  rintro e w2 ⟨rfl, hb⟩
  have HC2 := Lib.hid (HC1.out.keep hb)
  have HB2 := Lib.hid (HB1.out.trans (hb.mono HB1.out.size))
  clear hb HC1 HB1 c0
  have c0 := HC2.out.c 0 _ rfl
  go_wp2_with fail
  refine (number_any ⟨#[120, 50]⟩ 100000 c _ HC2.out).mono ?_
  rintro e w3 ⟨rfl, hb⟩
  have HC3 := Lib.hid (HC2.out.keep hb)
  have HB3 := Lib.hid (HB2.out.trans (hb.mono HB2.out.size))
  clear hb HC2 HB2 c0
  have c0 := HC3.out.c 0 _ rfl
  go_wp2_with fail
  refine (number_any ⟨#[121, 50]⟩ 100000 c _ HC3.out).mono ?_
  rintro e w4 ⟨rfl, hb⟩
  have HC4 := Lib.hid (HC3.out.keep hb)
  have HB4 := Lib.hid (HB3.out.trans (hb.mono HB3.out.size))
  clear hb HC3 HB3 c0
  have c0 := HC4.out.c 0 _ rfl
  go_wp2_with fail
  go_ret
  exact ⟨_, rfl, World.ownsRow_lit w4 #[.string ⟨#[120, 49]⟩, .int .i64 (-1000000000000), .int .i64 1000000000000, .int .i64 0, .string ⟨#[121, 49]⟩, .int .i64 (-1000000000000), .int .i64 1000000000000, .int .i64 0, .string ⟨#[120, 50]⟩, .int .i64 (-1000000000000), .int .i64 1000000000000, .int .i64 100000, .string ⟨#[121, 50]⟩, .int .i64 (-1000000000000), .int .i64 1000000000000, .int .i64 100000] 4 HB4.out.size (by unfold maxLen; omega) rfl, HB4.out.alloc HB4.out.size _⟩
set_option maxHeartbeats 4000000 in
theorem bounds_max : BoundsOk ⟨#[109, 97, 120]⟩ [] := by
  intro w
  have hmf : ∀ (fn : Fn) (first cap : Array Value) (w : World), (Instr.makeFunc fn first cap).run Tryd.prog w = .ok (.func fn first cap) w := fun _ _ _ _ => rfl
  obtain ⟨W, c, hW, hc, s, B, sz⟩ := box1 w #[.func (.func 76) #[] #[]] 102
  have HB := Lib.hid B
  have HC := Lib.hid s
  go_enter Tryd.func41, Tryd.ntmps41
  go_upto_region 4 with fail
  rw [← hW]
  try rw [← hc]
  clear hW hc s B sz
  have c0 := HC.out.c 0 _ rfl
  go_wp2_with fail
  go_ret
  exact ⟨_, rfl, World.ownsRow_nil _ _ _ _, HB.out⟩
set_option maxHeartbeats 4000000 in
theorem bounds_mean : BoundsOk ⟨#[109, 101, 97, 110]⟩ [] := by
  intro w
  have hmf : ∀ (fn : Fn) (first cap : Array Value) (w : World), (Instr.makeFunc fn first cap).run Tryd.prog w = .ok (.func fn first cap) w := fun _ _ _ _ => rfl
  obtain ⟨W, c, hW, hc, s, B, sz⟩ := box1 w #[.func (.func 76) #[] #[]] 102
  have HB := Lib.hid B
  have HC := Lib.hid s
  go_enter Tryd.func41, Tryd.ntmps41
  go_upto_region 4 with fail
  rw [← hW]
  try rw [← hc]
  clear hW hc s B sz
  have c0 := HC.out.c 0 _ rfl
  go_wp2_with fail
  go_ret
  exact ⟨_, rfl, World.ownsRow_nil _ _ _ _, HB.out⟩
set_option maxHeartbeats 4000000 in
theorem bounds_min : BoundsOk ⟨#[109, 105, 110]⟩ [] := by
  intro w
  have hmf : ∀ (fn : Fn) (first cap : Array Value) (w : World), (Instr.makeFunc fn first cap).run Tryd.prog w = .ok (.func fn first cap) w := fun _ _ _ _ => rfl
  obtain ⟨W, c, hW, hc, s, B, sz⟩ := box1 w #[.func (.func 76) #[] #[]] 102
  have HB := Lib.hid B
  have HC := Lib.hid s
  go_enter Tryd.func41, Tryd.ntmps41
  go_upto_region 4 with fail
  rw [← hW]
  try rw [← hc]
  clear hW hc s B sz
  have c0 := HC.out.c 0 _ rfl
  go_wp2_with fail
  go_ret
  exact ⟨_, rfl, World.ownsRow_nil _ _ _ _, HB.out⟩
set_option maxHeartbeats 4000000 in
theorem bounds_mul : BoundsOk ⟨#[109, 117, 108]⟩ [] := by
  intro w
  have hmf : ∀ (fn : Fn) (first cap : Array Value) (w : World), (Instr.makeFunc fn first cap).run Tryd.prog w = .ok (.func fn first cap) w := fun _ _ _ _ => rfl
  obtain ⟨W, c, hW, hc, s, B, sz⟩ := box1 w #[.func (.func 76) #[] #[]] 102
  have HB := Lib.hid B
  have HC := Lib.hid s
  go_enter Tryd.func41, Tryd.ntmps41
  go_upto_region 4 with fail
  rw [← hW]
  try rw [← hc]
  clear hW hc s B sz
  have c0 := HC.out.c 0 _ rfl
  go_wp2_with fail
  go_ret
  exact ⟨_, rfl, World.ownsRow_nil _ _ _ _, HB.out⟩
set_option maxHeartbeats 4000000 in
theorem bounds_neg : BoundsOk ⟨#[110, 101, 103]⟩ [] := by
  intro w
  have hmf : ∀ (fn : Fn) (first cap : Array Value) (w : World), (Instr.makeFunc fn first cap).run Tryd.prog w = .ok (.func fn first cap) w := fun _ _ _ _ => rfl
  obtain ⟨W, c, hW, hc, s, B, sz⟩ := box1 w #[.func (.func 76) #[] #[]] 102
  have HB := Lib.hid B
  have HC := Lib.hid s
  go_enter Tryd.func41, Tryd.ntmps41
  go_upto_region 4 with fail
  rw [← hW]
  try rw [← hc]
  clear hW hc s B sz
  have c0 := HC.out.c 0 _ rfl
  go_wp2_with fail
  go_ret
  exact ⟨_, rfl, World.ownsRow_nil _ _ _ _, HB.out⟩
set_option maxHeartbeats 4000000 in
theorem bounds_not : BoundsOk ⟨#[110, 111, 116]⟩ [] := by
  intro w
  have hmf : ∀ (fn : Fn) (first cap : Array Value) (w : World), (Instr.makeFunc fn first cap).run Tryd.prog w = .ok (.func fn first cap) w := fun _ _ _ _ => rfl
  obtain ⟨W, c, hW, hc, s, B, sz⟩ := box1 w #[.func (.func 76) #[] #[]] 102
  have HB := Lib.hid B
  have HC := Lib.hid s
  go_enter Tryd.func41, Tryd.ntmps41
  go_upto_region 4 with fail
  rw [← hW]
  try rw [← hc]
  clear hW hc s B sz
  have c0 := HC.out.c 0 _ rfl
  go_wp2_with fail
  go_ret
  exact ⟨_, rfl, World.ownsRow_nil _ _ _ _, HB.out⟩
set_option maxHeartbeats 4000000 in
theorem bounds_or : BoundsOk ⟨#[111, 114]⟩ [] := by
  intro w
  have hmf : ∀ (fn : Fn) (first cap : Array Value) (w : World), (Instr.makeFunc fn first cap).run Tryd.prog w = .ok (.func fn first cap) w := fun _ _ _ _ => rfl
  obtain ⟨W, c, hW, hc, s, B, sz⟩ := box1 w #[.func (.func 76) #[] #[]] 102
  have HB := Lib.hid B
  have HC := Lib.hid s
  go_enter Tryd.func41, Tryd.ntmps41
  go_upto_region 4 with fail
  rw [← hW]
  try rw [← hc]
  clear hW hc s B sz
  have c0 := HC.out.c 0 _ rfl
  go_wp2_with fail
  go_ret
  exact ⟨_, rfl, World.ownsRow_nil _ _ _ _, HB.out⟩
set_option maxHeartbeats 4000000 in
theorem bounds_pick : BoundsOk ⟨#[112, 105, 99, 107]⟩ [] := by
  intro w
  have hmf : ∀ (fn : Fn) (first cap : Array Value) (w : World), (Instr.makeFunc fn first cap).run Tryd.prog w = .ok (.func fn first cap) w := fun _ _ _ _ => rfl
  obtain ⟨W, c, hW, hc, s, B, sz⟩ := box1 w #[.func (.func 76) #[] #[]] 102
  have HB := Lib.hid B
  have HC := Lib.hid s
  go_enter Tryd.func41, Tryd.ntmps41
  go_upto_region 4 with fail
  rw [← hW]
  try rw [← hc]
  clear hW hc s B sz
  have c0 := HC.out.c 0 _ rfl
  go_wp2_with fail
  go_ret
  exact ⟨_, rfl, World.ownsRow_nil _ _ _ _, HB.out⟩
set_option maxHeartbeats 4000000 in
theorem bounds_pid : BoundsOk ⟨#[112, 105, 100]⟩ [⟨⟨#[107, 112]⟩, 0, 1000000000, 1000⟩, ⟨⟨#[116, 105]⟩, 0, 86400, 0⟩, ⟨⟨#[108, 111, 119]⟩, (-1000000000000), 1000000000000, 0⟩, ⟨⟨#[104, 105, 103, 104]⟩, (-1000000000000), 1000000000000, 100000⟩, ⟨⟨#[114, 101, 118, 101, 114, 115, 101]⟩, 0, 1, 0⟩] := by
  intro w
  have hmf : ∀ (fn : Fn) (first cap : Array Value) (w : World), (Instr.makeFunc fn first cap).run Tryd.prog w = .ok (.func fn first cap) w := fun _ _ _ _ => rfl
  obtain ⟨W, c, hW, hc, s, B, sz⟩ := box1 w #[.func (.func 76) #[] #[]] 102
  have HB := Lib.hid B
  have HC := Lib.hid s
  go_enter Tryd.func41, Tryd.ntmps41
  go_upto_region 4 with fail
  rw [← hW]
  try rw [← hc]
  clear hW hc s B sz
  have c0 := HC.out.c 0 _ rfl
  go_wp2_with fail
  have HC0 := Lib.hid c0
  clear c0
  refine wp_region_held_drew (S := fun w => w.cell? ⟨c, 0, none⟩ = some (.func (.func 76) #[] #[])) (by kernel_rfl) HC0.out (fun hHeld => ?_)
  have hdr : Below W.heap.size W W.drew := (Below.refl _ _).drew
  have HC9 := Lib.hid (HC.out.keep hdr)
  have HB9 := Lib.hid (HB.out.trans (hdr.mono HB.out.size))
  obtain ⟨w0, hw0⟩ : ∃ x, x = W.drew := ⟨_, rfl⟩
  rw [← hw0] at HC9 HB9 hHeld ⊢
  clear hw0 hdr HC0 HC HB
  have HC0 := HC9
  have HB0 := HB9
  clear HC9 HB9
  refine' wpAnyH_take (i := 0) (v := _) rfl (by kernel_rfl) (by kernel_rfl) (by kernel_rfl) (fun _ _ _ h => h) (Or.inl ⟨by rfl, ?_⟩) hHeld ?_
  rotate_left
  · intro w hSw
    (try dsimp only at hSw)
    go_simp
    try with_reducible rfl
  (try simp only [Act.put, List.getElem_toArray, List.getElem_cons_zero, List.getElem_cons_succ, List.setIfInBounds_toArray, List.set_cons_zero, List.set_cons_succ])
  refine' wpAnyH_take (i := 2) (v := _) rfl (by kernel_rfl) (by kernel_rfl) (by kernel_rfl) (fun _ _ _ h => h) (Or.inl ⟨by rfl, ?_⟩) hHeld ?_
  rotate_left
  · intro w hSw
    (try dsimp only at hSw)
    go_simp
    try with_reducible rfl
  (try simp only [Act.put, List.getElem_toArray, List.getElem_cons_zero, List.getElem_cons_succ, List.setIfInBounds_toArray, List.set_cons_zero, List.set_cons_succ])
  refine' wpAnyH_take (i := 4) (v := _) rfl (by kernel_rfl) (by kernel_rfl) (by kernel_rfl) (fun _ _ _ h => h) (Or.inl ⟨by rfl, ?_⟩) hHeld ?_
  rotate_left
  · intro w hSw
    (try dsimp only at hSw)
    go_simp
    try with_reducible rfl
  (try simp only [Act.put, List.getElem_toArray, List.getElem_cons_zero, List.getElem_cons_succ, List.setIfInBounds_toArray, List.set_cons_zero, List.set_cons_succ])
  refine' wpAnyH_take (i := 6) (v := _) rfl (by kernel_rfl) (by kernel_rfl) (by kernel_rfl) (fun _ _ _ h => h) (Or.inl ⟨by rfl, ?_⟩) hHeld ?_
  rotate_left
  · intro w hSw
    (try dsimp only at hSw)
    go_simp
    try with_reducible rfl
  (try simp only [Act.put, List.getElem_toArray, List.getElem_cons_zero, List.getElem_cons_succ, List.setIfInBounds_toArray, List.set_cons_zero, List.set_cons_succ])
  refine' wpAnyH_take (i := 8) (v := _) rfl (by kernel_rfl) (by kernel_rfl) (by kernel_rfl) (fun _ _ _ h => h) (Or.inl ⟨by rfl, ?_⟩) hHeld ?_
  rotate_left
  · intro w hSw
    (try dsimp only at hSw)
    go_simp
    try with_reducible rfl
  (try simp only [Act.put, List.getElem_toArray, List.getElem_cons_zero, List.getElem_cons_succ, List.setIfInBounds_toArray, List.set_cons_zero, List.set_cons_succ])
  refine wpAnyH_ready (rs := [1]) (by kernel_rfl) (by simp) ?_
  refine AllReadyH.cons rfl (fun K hK => ?_) AllReadyH.nil
  go_simp
  refine (bound1_any ⟨#[107, 112]⟩ 0 1000000000 1000 _).mono ?_
  rintro e w1 ⟨rfl, hb⟩
  have HC1 := Lib.hid (HC0.out.keep hb)
  have HB1 := Lib.hid (HB0.out.trans (hb.mono HB0.out.size))
  clear hb hHeld HC0 HB0
  (try go_simp)
  refine hK.out _ _ (HC1.out.c 0 _ rfl) (fun hHeld => ?_)
  clear hK K
  (try simp only [Act.put, List.getElem_toArray, List.getElem_cons_zero, List.getElem_cons_succ, List.setIfInBounds_toArray, List.set_cons_zero, List.set_cons_succ])
  refine wpAnyH_ready (rs := [3]) (by kernel_rfl) (by simp) ?_
  refine AllReadyH.cons rfl (fun K hK => ?_) AllReadyH.nil
  go_simp
  refine (seconds_any ⟨#[116, 105]⟩ c _ HC1.out).mono ?_
  rintro e w2 ⟨rfl, hb⟩
  have HC2 := Lib.hid (HC1.out.keep hb)
  have HB2 := Lib.hid (HB1.out.trans (hb.mono HB1.out.size))
  clear hb hHeld HC1 HB1
  (try go_simp)
  refine hK.out _ _ (HC2.out.c 0 _ rfl) (fun hHeld => ?_)
  clear hK K
  (try simp only [Act.put, List.getElem_toArray, List.getElem_cons_zero, List.getElem_cons_succ, List.setIfInBounds_toArray, List.set_cons_zero, List.set_cons_succ])
  refine wpAnyH_ready (rs := [5]) (by kernel_rfl) (by simp) ?_
  refine AllReadyH.cons rfl (fun K hK => ?_) AllReadyH.nil
  go_simp
  refine (number_any ⟨#[108, 111, 119]⟩ 0 c _ HC2.out).mono ?_
  rintro e w3 ⟨rfl, hb⟩
  have HC3 := Lib.hid (HC2.out.keep hb)
  have HB3 := Lib.hid (HB2.out.trans (hb.mono HB2.out.size))
  clear hb hHeld HC2 HB2
  (try go_simp)
  refine hK.out _ _ (HC3.out.c 0 _ rfl) (fun hHeld => ?_)
  clear hK K
  (try simp only [Act.put, List.getElem_toArray, List.getElem_cons_zero, List.getElem_cons_succ, List.setIfInBounds_toArray, List.set_cons_zero, List.set_cons_succ])
  refine wpAnyH_ready (rs := [7]) (by kernel_rfl) (by simp) ?_
  refine AllReadyH.cons rfl (fun K hK => ?_) AllReadyH.nil
  go_simp
  refine (number_any ⟨#[104, 105, 103, 104]⟩ 100000 c _ HC3.out).mono ?_
  rintro e w4 ⟨rfl, hb⟩
  have HC4 := Lib.hid (HC3.out.keep hb)
  have HB4 := Lib.hid (HB3.out.trans (hb.mono HB3.out.size))
  clear hb hHeld HC3 HB3
  (try go_simp)
  refine hK.out _ _ (HC4.out.c 0 _ rfl) (fun hHeld => ?_)
  clear hK K
  (try simp only [Act.put, List.getElem_toArray, List.getElem_cons_zero, List.getElem_cons_succ, List.setIfInBounds_toArray, List.set_cons_zero, List.set_cons_succ])
  refine wpAnyH_ready (rs := [9]) (by kernel_rfl) (by simp) ?_
  refine AllReadyH.cons rfl (fun K hK => ?_) AllReadyH.nil
  go_simp
  refine (bound1_any ⟨#[114, 101, 118, 101, 114, 115, 101]⟩ 0 1 0 _).mono ?_
  rintro e w5 ⟨rfl, hb⟩
  have HC5 := Lib.hid (HC4.out.keep hb)
  have HB5 := Lib.hid (HB4.out.trans (hb.mono HB4.out.size))
  clear hb hHeld HC4 HB4
  (try go_simp)
  refine hK.out _ _ (HC5.out.c 0 _ rfl) (fun hHeld => ?_)
  clear hK K
  (try simp only [Act.put, List.getElem_toArray, List.getElem_cons_zero, List.getElem_cons_succ, List.setIfInBounds_toArray, List.set_cons_zero, List.set_cons_succ])
  have nal := (Below.refl w5.heap.size w5).alloc (Nat.le_refl _)
  refine wpAnyH_ready (rs := [10]) (by kernel_rfl) (by simp) ?_
  refine AllReadyH.cons rfl (fun K hK => ?_) AllReadyH.nil
  go_simp
  refine hK.out _ _ ((HC5.out.keep (nal _)).c 0 _ rfl) (fun hHeld => ?_)
  clear hK K
  (try simp only [Act.put, List.getElem_toArray, List.getElem_cons_zero, List.getElem_cons_succ, List.setIfInBounds_toArray, List.set_cons_zero, List.set_cons_succ])
  refine' wpAnyH_take (i := 11) (v := _) rfl (by kernel_rfl) (by kernel_rfl) (by kernel_rfl) (fun _ _ _ h => h) (Or.inl ⟨by rfl, ?_⟩) hHeld ?_
  rotate_left
  · intro w hSw
    (try dsimp only at hSw)
    go_simp
    try with_reducible rfl
  (try simp only [Act.put, List.getElem_toArray, List.getElem_cons_zero, List.getElem_cons_succ, List.setIfInBounds_toArray, List.set_cons_zero, List.set_cons_succ])
  refine wpAnyH_done (by kernel_rfl) ?_ _
  (try simp only [Act.put, List.getElem_toArray, List.getElem_cons_zero, List.getElem_cons_succ, List.setIfInBounds_toArray, List.set_cons_zero, List.set_cons_succ])
  clear hHeld nal
  go_wp2_with fail
  go_ret
  exact ⟨_, rfl, World.ownsRow_lit w5 #[.string ⟨#[107, 112]⟩, .int .i64 0, .int .i64 1000000000, .int .i64 1000, .string ⟨#[116, 105]⟩, .int .i64 0, .int .i64 86400, .int .i64 0, .string ⟨#[108, 111, 119]⟩, .int .i64 (-1000000000000), .int .i64 1000000000000, .int .i64 0, .string ⟨#[104, 105, 103, 104]⟩, .int .i64 (-1000000000000), .int .i64 1000000000000, .int .i64 100000, .string ⟨#[114, 101, 118, 101, 114, 115, 101]⟩, .int .i64 0, .int .i64 1, .int .i64 0] 5 HB5.out.size (by unfold maxLen; omega) rfl, HB5.out.alloc HB5.out.size _⟩
set_option maxHeartbeats 4000000 in
theorem bounds_rate : BoundsOk ⟨#[114, 97, 116, 101]⟩ [⟨⟨#[117, 112]⟩, 0, 1000000000000, 1000⟩, ⟨⟨#[100, 111, 119, 110]⟩, 0, 1000000000000, 1000⟩] := by
  intro w
  have hmf : ∀ (fn : Fn) (first cap : Array Value) (w : World), (Instr.makeFunc fn first cap).run Tryd.prog w = .ok (.func fn first cap) w := fun _ _ _ _ => rfl
  obtain ⟨W, c, hW, hc, s, B, sz⟩ := box1 w #[.func (.func 76) #[] #[]] 102
  have HB := Lib.hid B
  have HC := Lib.hid s
  go_enter Tryd.func41, Tryd.ntmps41
  go_upto_region 4 with fail
  rw [← hW]
  try rw [← hc]
  clear hW hc s B sz
  have c0 := HC.out.c 0 _ rfl
  go_wp2_with fail
  have HC0 := Lib.hid c0
  clear c0
  refine wp_region_held_drew (S := fun w => w.cell? ⟨c, 0, none⟩ = some (.func (.func 76) #[] #[])) (by kernel_rfl) HC0.out (fun hHeld => ?_)
  have hdr : Below W.heap.size W W.drew := (Below.refl _ _).drew
  have HC9 := Lib.hid (HC.out.keep hdr)
  have HB9 := Lib.hid (HB.out.trans (hdr.mono HB.out.size))
  obtain ⟨w0, hw0⟩ : ∃ x, x = W.drew := ⟨_, rfl⟩
  rw [← hw0] at HC9 HB9 hHeld ⊢
  clear hw0 hdr HC0 HC HB
  have HC0 := HC9
  have HB0 := HB9
  clear HC9 HB9
  refine' wpAnyH_take (i := 0) (v := _) rfl (by kernel_rfl) (by kernel_rfl) (by kernel_rfl) (fun _ _ _ h => h) (Or.inl ⟨by rfl, ?_⟩) hHeld ?_
  rotate_left
  · intro w hSw
    (try dsimp only at hSw)
    go_simp
    try with_reducible rfl
  (try simp only [Act.put, List.getElem_toArray, List.getElem_cons_zero, List.getElem_cons_succ, List.setIfInBounds_toArray, List.set_cons_zero, List.set_cons_succ])
  refine' wpAnyH_take (i := 2) (v := _) rfl (by kernel_rfl) (by kernel_rfl) (by kernel_rfl) (fun _ _ _ h => h) (Or.inl ⟨by rfl, ?_⟩) hHeld ?_
  rotate_left
  · intro w hSw
    (try dsimp only at hSw)
    go_simp
    try with_reducible rfl
  (try simp only [Act.put, List.getElem_toArray, List.getElem_cons_zero, List.getElem_cons_succ, List.setIfInBounds_toArray, List.set_cons_zero, List.set_cons_succ])
  refine wpAnyH_ready (rs := [1]) (by kernel_rfl) (by simp) ?_
  refine AllReadyH.cons rfl (fun K hK => ?_) AllReadyH.nil
  go_simp
  refine (bound1_any ⟨#[117, 112]⟩ 0 1000000000000 1000 _).mono ?_
  rintro e w1 ⟨rfl, hb⟩
  have HC1 := Lib.hid (HC0.out.keep hb)
  have HB1 := Lib.hid (HB0.out.trans (hb.mono HB0.out.size))
  clear hb hHeld HC0 HB0
  (try go_simp)
  refine hK.out _ _ (HC1.out.c 0 _ rfl) (fun hHeld => ?_)
  clear hK K
  (try simp only [Act.put, List.getElem_toArray, List.getElem_cons_zero, List.getElem_cons_succ, List.setIfInBounds_toArray, List.set_cons_zero, List.set_cons_succ])
  refine wpAnyH_ready (rs := [3]) (by kernel_rfl) (by simp) ?_
  refine AllReadyH.cons rfl (fun K hK => ?_) AllReadyH.nil
  go_simp
  refine (bound1_any ⟨#[100, 111, 119, 110]⟩ 0 1000000000000 1000 _).mono ?_
  rintro e w2 ⟨rfl, hb⟩
  have HC2 := Lib.hid (HC1.out.keep hb)
  have HB2 := Lib.hid (HB1.out.trans (hb.mono HB1.out.size))
  clear hb hHeld HC1 HB1
  (try go_simp)
  refine hK.out _ _ (HC2.out.c 0 _ rfl) (fun hHeld => ?_)
  clear hK K
  (try simp only [Act.put, List.getElem_toArray, List.getElem_cons_zero, List.getElem_cons_succ, List.setIfInBounds_toArray, List.set_cons_zero, List.set_cons_succ])
  have nal := (Below.refl w2.heap.size w2).alloc (Nat.le_refl _)
  refine wpAnyH_ready (rs := [4]) (by kernel_rfl) (by simp) ?_
  refine AllReadyH.cons rfl (fun K hK => ?_) AllReadyH.nil
  go_simp
  refine hK.out _ _ ((HC2.out.keep (nal _)).c 0 _ rfl) (fun hHeld => ?_)
  clear hK K
  (try simp only [Act.put, List.getElem_toArray, List.getElem_cons_zero, List.getElem_cons_succ, List.setIfInBounds_toArray, List.set_cons_zero, List.set_cons_succ])
  refine' wpAnyH_take (i := 5) (v := _) rfl (by kernel_rfl) (by kernel_rfl) (by kernel_rfl) (fun _ _ _ h => h) (Or.inl ⟨by rfl, ?_⟩) hHeld ?_
  rotate_left
  · intro w hSw
    (try dsimp only at hSw)
    go_simp
    try with_reducible rfl
  (try simp only [Act.put, List.getElem_toArray, List.getElem_cons_zero, List.getElem_cons_succ, List.setIfInBounds_toArray, List.set_cons_zero, List.set_cons_succ])
  refine wpAnyH_done (by kernel_rfl) ?_ _
  (try simp only [Act.put, List.getElem_toArray, List.getElem_cons_zero, List.getElem_cons_succ, List.setIfInBounds_toArray, List.set_cons_zero, List.set_cons_succ])
  clear hHeld nal
  go_wp2_with fail
  go_ret
  exact ⟨_, rfl, World.ownsRow_lit w2 #[.string ⟨#[117, 112]⟩, .int .i64 0, .int .i64 1000000000000, .int .i64 1000, .string ⟨#[100, 111, 119, 110]⟩, .int .i64 0, .int .i64 1000000000000, .int .i64 1000] 2 HB2.out.size (by unfold maxLen; omega) rfl, HB2.out.alloc HB2.out.size _⟩
set_option maxHeartbeats 4000000 in
theorem bounds_sub : BoundsOk ⟨#[115, 117, 98]⟩ [] := by
  intro w
  have hmf : ∀ (fn : Fn) (first cap : Array Value) (w : World), (Instr.makeFunc fn first cap).run Tryd.prog w = .ok (.func fn first cap) w := fun _ _ _ _ => rfl
  obtain ⟨W, c, hW, hc, s, B, sz⟩ := box1 w #[.func (.func 76) #[] #[]] 102
  have HB := Lib.hid B
  have HC := Lib.hid s
  go_enter Tryd.func41, Tryd.ntmps41
  go_upto_region 4 with fail
  rw [← hW]
  try rw [← hc]
  clear hW hc s B sz
  have c0 := HC.out.c 0 _ rfl
  go_wp2_with fail
  go_ret
  exact ⟨_, rfl, World.ownsRow_nil _ _ _ _, HB.out⟩
set_option maxHeartbeats 4000000 in
theorem bounds_xor : BoundsOk ⟨#[120, 111, 114]⟩ [] := by
  intro w
  have hmf : ∀ (fn : Fn) (first cap : Array Value) (w : World), (Instr.makeFunc fn first cap).run Tryd.prog w = .ok (.func fn first cap) w := fun _ _ _ _ => rfl
  obtain ⟨W, c, hW, hc, s, B, sz⟩ := box1 w #[.func (.func 76) #[] #[]] 102
  have HB := Lib.hid B
  have HC := Lib.hid s
  go_enter Tryd.func41, Tryd.ntmps41
  go_upto_region 4 with fail
  rw [← hW]
  try rw [← hc]
  clear hW hc s B sz
  have c0 := HC.out.c 0 _ rfl
  go_wp2_with fail
  go_ret
  exact ⟨_, rfl, World.ownsRow_nil _ _ _ _, HB.out⟩
theorem row_above : RowOk ⟨⟨#[97, 98, 111, 118, 101]⟩, ⟨#[97, 58, 32, 85, 44, 32, 98, 58, 32, 85]⟩, ⟨#[98, 105, 110, 97, 114, 121]⟩, 1, 0⟩ [] [⟨⟨#[97]⟩, ⟨#[85]⟩⟩, ⟨⟨#[98]⟩, ⟨#[85]⟩⟩] := row_ok _ _ _ _ bounds_above split_0 rfl (by decide) cuts_0
theorem find_above : FindOk ⟨#[97, 98, 111, 118, 101]⟩ ⟨#[98, 105, 110, 97, 114, 121]⟩ 1 0 [] [⟨⟨#[97]⟩, ⟨#[85]⟩⟩, ⟨⟨#[98]⟩, ⟨#[85]⟩⟩] := fun w hm => find_any 0 (by decide) _ _ _ (by kernel_rfl) (by decide +kernel) row_above w hm
theorem row_abs : RowOk ⟨⟨#[97, 98, 115]⟩, ⟨#[97, 58, 32, 85]⟩, ⟨#[85]⟩, 1, 0⟩ [] [⟨⟨#[97]⟩, ⟨#[85]⟩⟩] := row_ok _ _ _ _ bounds_abs split_1 rfl (by decide) cuts_1
theorem find_abs : FindOk ⟨#[97, 98, 115]⟩ ⟨#[85]⟩ 1 0 [] [⟨⟨#[97]⟩, ⟨#[85]⟩⟩] := fun w hm => find_any 1 (by decide) _ _ _ (by kernel_rfl) (by decide +kernel) row_abs w hm
theorem row_add : RowOk ⟨⟨#[97, 100, 100]⟩, ⟨#[97, 58, 32, 85, 44, 32, 98, 58, 32, 85]⟩, ⟨#[85]⟩, 1, 0⟩ [] [⟨⟨#[97]⟩, ⟨#[85]⟩⟩, ⟨⟨#[98]⟩, ⟨#[85]⟩⟩] := row_ok _ _ _ _ bounds_add split_0 rfl (by decide) cuts_0
theorem find_add : FindOk ⟨#[97, 100, 100]⟩ ⟨#[85]⟩ 1 0 [] [⟨⟨#[97]⟩, ⟨#[85]⟩⟩, ⟨⟨#[98]⟩, ⟨#[85]⟩⟩] := fun w hm => find_any 2 (by decide) _ _ _ (by kernel_rfl) (by decide +kernel) row_add w hm
theorem row_and : RowOk ⟨⟨#[97, 110, 100]⟩, ⟨#[97, 58, 32, 98, 105, 110, 97, 114, 121, 44, 32, 98, 58, 32, 98, 105, 110, 97, 114, 121]⟩, ⟨#[98, 105, 110, 97, 114, 121]⟩, 7, 0⟩ [] [⟨⟨#[97]⟩, ⟨#[98, 105, 110, 97, 114, 121]⟩⟩, ⟨⟨#[98]⟩, ⟨#[98, 105, 110, 97, 114, 121]⟩⟩] := row_ok _ _ _ _ bounds_and split_2 rfl (by decide) cuts_2
theorem find_and : FindOk ⟨#[97, 110, 100]⟩ ⟨#[98, 105, 110, 97, 114, 121]⟩ 7 0 [] [⟨⟨#[97]⟩, ⟨#[98, 105, 110, 97, 114, 121]⟩⟩, ⟨⟨#[98]⟩, ⟨#[98, 105, 110, 97, 114, 121]⟩⟩] := fun w hm => find_any 3 (by decide) _ _ _ (by kernel_rfl) (by decide +kernel) row_and w hm
theorem row_below : RowOk ⟨⟨#[98, 101, 108, 111, 119]⟩, ⟨#[97, 58, 32, 85, 44, 32, 98, 58, 32, 85]⟩, ⟨#[98, 105, 110, 97, 114, 121]⟩, 1, 0⟩ [] [⟨⟨#[97]⟩, ⟨#[85]⟩⟩, ⟨⟨#[98]⟩, ⟨#[85]⟩⟩] := row_ok _ _ _ _ bounds_below split_0 rfl (by decide) cuts_0
theorem find_below : FindOk ⟨#[98, 101, 108, 111, 119]⟩ ⟨#[98, 105, 110, 97, 114, 121]⟩ 1 0 [] [⟨⟨#[97]⟩, ⟨#[85]⟩⟩, ⟨⟨#[98]⟩, ⟨#[85]⟩⟩] := fun w hm => find_any 4 (by decide) _ _ _ (by kernel_rfl) (by decide +kernel) row_below w hm
theorem row_choose : RowOk ⟨⟨#[99, 104, 111, 111, 115, 101]⟩, ⟨#[109, 58, 32, 109, 117, 108, 116, 105, 44, 32, 97, 58, 32, 84]⟩, ⟨#[84]⟩, 7, 0⟩ [] [⟨⟨#[109]⟩, ⟨#[109, 117, 108, 116, 105]⟩⟩, ⟨⟨#[97]⟩, ⟨#[84]⟩⟩] := row_ok _ _ _ _ bounds_choose split_3 rfl (by decide) cuts_3
theorem find_choose : FindOk ⟨#[99, 104, 111, 111, 115, 101]⟩ ⟨#[84]⟩ 7 0 [] [⟨⟨#[109]⟩, ⟨#[109, 117, 108, 116, 105]⟩⟩, ⟨⟨#[97]⟩, ⟨#[84]⟩⟩] := fun w hm => find_any 5 (by decide) _ _ _ (by kernel_rfl) (by decide +kernel) row_choose w hm
theorem row_dewpoint : RowOk ⟨⟨#[100, 101, 119, 112, 111, 105, 110, 116]⟩, ⟨#[116, 58, 32, 97, 110, 97, 108, 111, 103, 32, 100, 101, 103, 67, 44, 32, 114, 104, 58, 32, 97, 110, 97, 108, 111, 103, 32, 112, 99, 116]⟩, ⟨#[97, 110, 97, 108, 111, 103, 32, 100, 101, 103, 67]⟩, 1, 0⟩ [] [⟨⟨#[116]⟩, ⟨#[97, 110, 97, 108, 111, 103, 32, 100, 101, 103, 67]⟩⟩, ⟨⟨#[114, 104]⟩, ⟨#[97, 110, 97, 108, 111, 103, 32, 112, 99, 116]⟩⟩] := row_ok _ _ _ _ bounds_dewpoint split_5 rfl (by decide) cuts_5
theorem find_dewpoint : FindOk ⟨#[100, 101, 119, 112, 111, 105, 110, 116]⟩ ⟨#[97, 110, 97, 108, 111, 103, 32, 100, 101, 103, 67]⟩ 1 0 [] [⟨⟨#[116]⟩, ⟨#[97, 110, 97, 108, 111, 103, 32, 100, 101, 103, 67]⟩⟩, ⟨⟨#[114, 104]⟩, ⟨#[97, 110, 97, 108, 111, 103, 32, 112, 99, 116]⟩⟩] := fun w hm => find_any 7 (by decide) _ _ _ (by kernel_rfl) (by decide +kernel) row_dewpoint w hm
theorem row_div : RowOk ⟨⟨#[100, 105, 118]⟩, ⟨#[97, 58, 32, 85, 44, 32, 98, 58, 32, 86]⟩, ⟨#[85, 47, 86]⟩, 1, 0⟩ [] [⟨⟨#[97]⟩, ⟨#[85]⟩⟩, ⟨⟨#[98]⟩, ⟨#[86]⟩⟩] := row_ok _ _ _ _ bounds_div split_6 rfl (by decide) cuts_6
theorem find_div : FindOk ⟨#[100, 105, 118]⟩ ⟨#[85, 47, 86]⟩ 1 0 [] [⟨⟨#[97]⟩, ⟨#[85]⟩⟩, ⟨⟨#[98]⟩, ⟨#[86]⟩⟩] := fun w hm => find_any 8 (by decide) _ _ _ (by kernel_rfl) (by decide +kernel) row_div w hm
theorem row_enthalpy : RowOk ⟨⟨#[101, 110, 116, 104, 97, 108, 112, 121]⟩, ⟨#[116, 58, 32, 97, 110, 97, 108, 111, 103, 32, 100, 101, 103, 67, 44, 32, 114, 104, 58, 32, 97, 110, 97, 108, 111, 103, 32, 112, 99, 116]⟩, ⟨#[97, 110, 97, 108, 111, 103, 32, 107, 74, 47, 107, 103]⟩, 1, 0⟩ [] [⟨⟨#[116]⟩, ⟨#[97, 110, 97, 108, 111, 103, 32, 100, 101, 103, 67]⟩⟩, ⟨⟨#[114, 104]⟩, ⟨#[97, 110, 97, 108, 111, 103, 32, 112, 99, 116]⟩⟩] := row_ok _ _ _ _ bounds_enthalpy split_5 rfl (by decide) cuts_5
theorem find_enthalpy : FindOk ⟨#[101, 110, 116, 104, 97, 108, 112, 121]⟩ ⟨#[97, 110, 97, 108, 111, 103, 32, 107, 74, 47, 107, 103]⟩ 1 0 [] [⟨⟨#[116]⟩, ⟨#[97, 110, 97, 108, 111, 103, 32, 100, 101, 103, 67]⟩⟩, ⟨⟨#[114, 104]⟩, ⟨#[97, 110, 97, 108, 111, 103, 32, 112, 99, 116]⟩⟩] := fun w hm => find_any 10 (by decide) _ _ _ (by kernel_rfl) (by decide +kernel) row_enthalpy w hm
theorem row_line : RowOk ⟨⟨#[108, 105, 110, 101]⟩, ⟨#[97, 58, 32, 85]⟩, ⟨#[97, 110, 97, 108, 111, 103]⟩, 1, 0⟩ [⟨⟨#[120, 49]⟩, (-1000000000000), 1000000000000, 0⟩, ⟨⟨#[121, 49]⟩, (-1000000000000), 1000000000000, 0⟩, ⟨⟨#[120, 50]⟩, (-1000000000000), 1000000000000, 100000⟩, ⟨⟨#[121, 50]⟩, (-1000000000000), 1000000000000, 100000⟩] [⟨⟨#[97]⟩, ⟨#[85]⟩⟩] := row_ok _ _ _ _ bounds_line split_1 rfl (by decide) cuts_1
theorem find_line : FindOk ⟨#[108, 105, 110, 101]⟩ ⟨#[97, 110, 97, 108, 111, 103]⟩ 1 0 [⟨⟨#[120, 49]⟩, (-1000000000000), 1000000000000, 0⟩, ⟨⟨#[121, 49]⟩, (-1000000000000), 1000000000000, 0⟩, ⟨⟨#[120, 50]⟩, (-1000000000000), 1000000000000, 100000⟩, ⟨⟨#[121, 50]⟩, (-1000000000000), 1000000000000, 100000⟩] [⟨⟨#[97]⟩, ⟨#[85]⟩⟩] := fun w hm => find_any 14 (by decide) _ _ _ (by kernel_rfl) (by decide +kernel) row_line w hm
theorem row_max : RowOk ⟨⟨#[109, 97, 120]⟩, ⟨#[97, 58, 32, 85, 44, 32, 98, 58, 32, 85]⟩, ⟨#[85]⟩, 1, 0⟩ [] [⟨⟨#[97]⟩, ⟨#[85]⟩⟩, ⟨⟨#[98]⟩, ⟨#[85]⟩⟩] := row_ok _ _ _ _ bounds_max split_0 rfl (by decide) cuts_0
theorem find_max : FindOk ⟨#[109, 97, 120]⟩ ⟨#[85]⟩ 1 0 [] [⟨⟨#[97]⟩, ⟨#[85]⟩⟩, ⟨⟨#[98]⟩, ⟨#[85]⟩⟩] := fun w hm => find_any 15 (by decide) _ _ _ (by kernel_rfl) (by decide +kernel) row_max w hm
theorem row_mean : RowOk ⟨⟨#[109, 101, 97, 110]⟩, ⟨#[97, 58, 32, 85, 44, 32, 98, 58, 32, 85]⟩, ⟨#[85]⟩, 7, 0⟩ [] [⟨⟨#[97]⟩, ⟨#[85]⟩⟩, ⟨⟨#[98]⟩, ⟨#[85]⟩⟩] := row_ok _ _ _ _ bounds_mean split_0 rfl (by decide) cuts_0
theorem find_mean : FindOk ⟨#[109, 101, 97, 110]⟩ ⟨#[85]⟩ 7 0 [] [⟨⟨#[97]⟩, ⟨#[85]⟩⟩, ⟨⟨#[98]⟩, ⟨#[85]⟩⟩] := fun w hm => find_any 16 (by decide) _ _ _ (by kernel_rfl) (by decide +kernel) row_mean w hm
theorem row_min : RowOk ⟨⟨#[109, 105, 110]⟩, ⟨#[97, 58, 32, 85, 44, 32, 98, 58, 32, 85]⟩, ⟨#[85]⟩, 1, 0⟩ [] [⟨⟨#[97]⟩, ⟨#[85]⟩⟩, ⟨⟨#[98]⟩, ⟨#[85]⟩⟩] := row_ok _ _ _ _ bounds_min split_0 rfl (by decide) cuts_0
theorem find_min : FindOk ⟨#[109, 105, 110]⟩ ⟨#[85]⟩ 1 0 [] [⟨⟨#[97]⟩, ⟨#[85]⟩⟩, ⟨⟨#[98]⟩, ⟨#[85]⟩⟩] := fun w hm => find_any 17 (by decide) _ _ _ (by kernel_rfl) (by decide +kernel) row_min w hm
theorem row_mul : RowOk ⟨⟨#[109, 117, 108]⟩, ⟨#[97, 58, 32, 85, 44, 32, 98, 58, 32, 86]⟩, ⟨#[85, 42, 86]⟩, 1, 0⟩ [] [⟨⟨#[97]⟩, ⟨#[85]⟩⟩, ⟨⟨#[98]⟩, ⟨#[86]⟩⟩] := row_ok _ _ _ _ bounds_mul split_6 rfl (by decide) cuts_6
theorem find_mul : FindOk ⟨#[109, 117, 108]⟩ ⟨#[85, 42, 86]⟩ 1 0 [] [⟨⟨#[97]⟩, ⟨#[85]⟩⟩, ⟨⟨#[98]⟩, ⟨#[86]⟩⟩] := fun w hm => find_any 19 (by decide) _ _ _ (by kernel_rfl) (by decide +kernel) row_mul w hm
theorem row_neg : RowOk ⟨⟨#[110, 101, 103]⟩, ⟨#[97, 58, 32, 85]⟩, ⟨#[85]⟩, 1, 0⟩ [] [⟨⟨#[97]⟩, ⟨#[85]⟩⟩] := row_ok _ _ _ _ bounds_neg split_1 rfl (by decide) cuts_1
theorem find_neg : FindOk ⟨#[110, 101, 103]⟩ ⟨#[85]⟩ 1 0 [] [⟨⟨#[97]⟩, ⟨#[85]⟩⟩] := fun w hm => find_any 20 (by decide) _ _ _ (by kernel_rfl) (by decide +kernel) row_neg w hm
theorem row_not : RowOk ⟨⟨#[110, 111, 116]⟩, ⟨#[97, 58, 32, 98, 105, 110, 97, 114, 121]⟩, ⟨#[98, 105, 110, 97, 114, 121]⟩, 1, 0⟩ [] [⟨⟨#[97]⟩, ⟨#[98, 105, 110, 97, 114, 121]⟩⟩] := row_ok _ _ _ _ bounds_not split_7 rfl (by decide) cuts_7
theorem find_not : FindOk ⟨#[110, 111, 116]⟩ ⟨#[98, 105, 110, 97, 114, 121]⟩ 1 0 [] [⟨⟨#[97]⟩, ⟨#[98, 105, 110, 97, 114, 121]⟩⟩] := fun w hm => find_any 21 (by decide) _ _ _ (by kernel_rfl) (by decide +kernel) row_not w hm
theorem row_or : RowOk ⟨⟨#[111, 114]⟩, ⟨#[97, 58, 32, 98, 105, 110, 97, 114, 121, 44, 32, 98, 58, 32, 98, 105, 110, 97, 114, 121]⟩, ⟨#[98, 105, 110, 97, 114, 121]⟩, 7, 0⟩ [] [⟨⟨#[97]⟩, ⟨#[98, 105, 110, 97, 114, 121]⟩⟩, ⟨⟨#[98]⟩, ⟨#[98, 105, 110, 97, 114, 121]⟩⟩] := row_ok _ _ _ _ bounds_or split_2 rfl (by decide) cuts_2
theorem find_or : FindOk ⟨#[111, 114]⟩ ⟨#[98, 105, 110, 97, 114, 121]⟩ 7 0 [] [⟨⟨#[97]⟩, ⟨#[98, 105, 110, 97, 114, 121]⟩⟩, ⟨⟨#[98]⟩, ⟨#[98, 105, 110, 97, 114, 121]⟩⟩] := fun w hm => find_any 24 (by decide) _ _ _ (by kernel_rfl) (by decide +kernel) row_or w hm
theorem row_pick : RowOk ⟨⟨#[112, 105, 99, 107]⟩, ⟨#[115, 58, 32, 98, 105, 110, 97, 114, 121, 44, 32, 97, 58, 32, 84, 44, 32, 98, 58, 32, 84]⟩, ⟨#[84]⟩, 1, 0⟩ [] [⟨⟨#[115]⟩, ⟨#[98, 105, 110, 97, 114, 121]⟩⟩, ⟨⟨#[97]⟩, ⟨#[84]⟩⟩, ⟨⟨#[98]⟩, ⟨#[84]⟩⟩] := row_ok _ _ _ _ bounds_pick split_9 rfl (by decide) cuts_9
theorem find_pick : FindOk ⟨#[112, 105, 99, 107]⟩ ⟨#[84]⟩ 1 0 [] [⟨⟨#[115]⟩, ⟨#[98, 105, 110, 97, 114, 121]⟩⟩, ⟨⟨#[97]⟩, ⟨#[84]⟩⟩, ⟨⟨#[98]⟩, ⟨#[84]⟩⟩] := fun w hm => find_any 25 (by decide) _ _ _ (by kernel_rfl) (by decide +kernel) row_pick w hm
theorem row_pid : RowOk ⟨⟨#[112, 105, 100]⟩, ⟨#[115, 101, 116, 58, 32, 85, 44, 32, 110, 111, 119, 58, 32, 85, 44, 32, 101, 110, 97, 98, 108, 101, 58, 32, 98, 105, 110, 97, 114, 121]⟩, ⟨#[97, 110, 97, 108, 111, 103, 32, 112, 99, 116]⟩, 1, 3⟩ [⟨⟨#[107, 112]⟩, 0, 1000000000, 1000⟩, ⟨⟨#[116, 105]⟩, 0, 86400, 0⟩, ⟨⟨#[108, 111, 119]⟩, (-1000000000000), 1000000000000, 0⟩, ⟨⟨#[104, 105, 103, 104]⟩, (-1000000000000), 1000000000000, 100000⟩, ⟨⟨#[114, 101, 118, 101, 114, 115, 101]⟩, 0, 1, 0⟩] [⟨⟨#[115, 101, 116]⟩, ⟨#[85]⟩⟩, ⟨⟨#[110, 111, 119]⟩, ⟨#[85]⟩⟩, ⟨⟨#[101, 110, 97, 98, 108, 101]⟩, ⟨#[98, 105, 110, 97, 114, 121]⟩⟩] := row_ok _ _ _ _ bounds_pid split_10 rfl (by decide) cuts_10
theorem find_pid : FindOk ⟨#[112, 105, 100]⟩ ⟨#[97, 110, 97, 108, 111, 103, 32, 112, 99, 116]⟩ 1 3 [⟨⟨#[107, 112]⟩, 0, 1000000000, 1000⟩, ⟨⟨#[116, 105]⟩, 0, 86400, 0⟩, ⟨⟨#[108, 111, 119]⟩, (-1000000000000), 1000000000000, 0⟩, ⟨⟨#[104, 105, 103, 104]⟩, (-1000000000000), 1000000000000, 100000⟩, ⟨⟨#[114, 101, 118, 101, 114, 115, 101]⟩, 0, 1, 0⟩] [⟨⟨#[115, 101, 116]⟩, ⟨#[85]⟩⟩, ⟨⟨#[110, 111, 119]⟩, ⟨#[85]⟩⟩, ⟨⟨#[101, 110, 97, 98, 108, 101]⟩, ⟨#[98, 105, 110, 97, 114, 121]⟩⟩] := fun w hm => find_any 26 (by decide) _ _ _ (by kernel_rfl) (by decide +kernel) row_pid w hm
theorem row_rate : RowOk ⟨⟨#[114, 97, 116, 101]⟩, ⟨#[97, 58, 32, 85]⟩, ⟨#[85]⟩, 1, 2⟩ [⟨⟨#[117, 112]⟩, 0, 1000000000000, 1000⟩, ⟨⟨#[100, 111, 119, 110]⟩, 0, 1000000000000, 1000⟩] [⟨⟨#[97]⟩, ⟨#[85]⟩⟩] := row_ok _ _ _ _ bounds_rate split_1 rfl (by decide) cuts_1
theorem find_rate : FindOk ⟨#[114, 97, 116, 101]⟩ ⟨#[85]⟩ 1 2 [⟨⟨#[117, 112]⟩, 0, 1000000000000, 1000⟩, ⟨⟨#[100, 111, 119, 110]⟩, 0, 1000000000000, 1000⟩] [⟨⟨#[97]⟩, ⟨#[85]⟩⟩] := fun w hm => find_any 28 (by decide) _ _ _ (by kernel_rfl) (by decide +kernel) row_rate w hm
theorem row_sub : RowOk ⟨⟨#[115, 117, 98]⟩, ⟨#[97, 58, 32, 85, 44, 32, 98, 58, 32, 85]⟩, ⟨#[85]⟩, 1, 0⟩ [] [⟨⟨#[97]⟩, ⟨#[85]⟩⟩, ⟨⟨#[98]⟩, ⟨#[85]⟩⟩] := row_ok _ _ _ _ bounds_sub split_0 rfl (by decide) cuts_0
theorem find_sub : FindOk ⟨#[115, 117, 98]⟩ ⟨#[85]⟩ 1 0 [] [⟨⟨#[97]⟩, ⟨#[85]⟩⟩, ⟨⟨#[98]⟩, ⟨#[85]⟩⟩] := fun w hm => find_any 31 (by decide) _ _ _ (by kernel_rfl) (by decide +kernel) row_sub w hm
theorem row_xor : RowOk ⟨⟨#[120, 111, 114]⟩, ⟨#[97, 58, 32, 98, 105, 110, 97, 114, 121, 44, 32, 98, 58, 32, 98, 105, 110, 97, 114, 121]⟩, ⟨#[98, 105, 110, 97, 114, 121]⟩, 1, 0⟩ [] [⟨⟨#[97]⟩, ⟨#[98, 105, 110, 97, 114, 121]⟩⟩, ⟨⟨#[98]⟩, ⟨#[98, 105, 110, 97, 114, 121]⟩⟩] := row_ok _ _ _ _ bounds_xor split_2 rfl (by decide) cuts_2
theorem find_xor : FindOk ⟨#[120, 111, 114]⟩ ⟨#[98, 105, 110, 97, 114, 121]⟩ 1 0 [] [⟨⟨#[97]⟩, ⟨#[98, 105, 110, 97, 114, 121]⟩⟩, ⟨⟨#[98]⟩, ⟨#[98, 105, 110, 97, 114, 121]⟩⟩] := fun w hm => find_any 32 (by decide) _ _ _ (by kernel_rfl) (by decide +kernel) row_xor w hm
set_option maxHeartbeats 4000000 in
set_option maxRecDepth 100000 in
theorem find_miss_core (C : Array Value) (HT : Hid (∀ w, Calls Tryd.prog 27 #[] w fun e w' => e = .returned (.agg C) ∧ Below w.heap.size w w')) (HI : Hid (∀ k, k < 33 → C.extract (k * 5) (k * 5 + 5) = rowC (rowAt k)))
    (s : ByteArray) (hn : ∀ j, j < 33 → ¬ (rowAt j).nm = s) (w : World) :
    Calls Tryd.prog 13 #[.string s] w fun e w' => e = .returned (.tuple #[.agg #[.string ⟨#[]⟩, .slice none 0 0, .slice none 0 0, .slice none 0 0, .int .i64 0, .int .i64 0], .int .i64 3]) ∧ Below w.heap.size w w' := by
  have HNN := Lib.hid hn
  clear hn
  obtain ⟨W, q, hW, hq, RQ, B, sz⟩ := box1 w #[.string ⟨#[]⟩, .slice none 0 0, .slice none 0 0, .slice none 0 0, .int .i64 0, .int .i64 0] 30
  have HQ := Lib.hid RQ
  have HB := Lib.hid B
  have HWQ := Lib.hid (show w.heap.size ≤ q by omega)
  go_enter Tryd.func13, Tryd.ntmps13
  go_upto_region 1 with fail
  rw [← hW]
  try rw [← hq]
  clear hW hq RQ B sz
  go_wp2_with fail
  refine (HT.out _).mono ?_
  rintro e w1 ⟨rfl, hb⟩
  have HQ1 := Lib.hid (HQ.out.keep hb)
  have HB1 := Lib.hid (HB.out.trans (hb.mono HB.out.size))
  clear hb HQ HB
  go_wp2_with fail
  go_loopw [7] (fun i wr => ∃ k : Nat, k ≤ 33 ∧ i = .int .i64 k ∧ Hid (RowAt wr q [.string ⟨#[]⟩, .slice none 0 0, .slice none 0 0, .slice none 0 0, .int .i64 0, .int .i64 0] ∧ Below w.heap.size w wr)) (fun i _ => 33 - (intOf i).toNat)
  case atStart => exact ⟨0, Nat.zero_le _, rfl, Lib.hid ⟨HQ1.out, HB1.out⟩⟩
  case round =>
    obtain ⟨k, hk, rfl, HH⟩ := hrel
    have HQ := Lib.hid HH.out.1
    have HB := Lib.hid HH.out.2
    clear HH HQ1 HB1
    have nal := (Below.refl wr.heap.size wr).alloc (Nat.le_refl _)
    by_cases hlt : k < 33
    · have hkn : k < 33 := hlt
      have HKN := Lib.hid hlt
      obtain ⟨r, hr⟩ : ∃ r, r = rowAt k := ⟨_, rfl⟩
      have hi := HI.out k (by have := HKN.out; omega)
      rw [← hr] at hi
      have HRK := Lib.hid hr
      obtain ⟨rn, ri, ro, rm, rs⟩ := r
      have hi := idx_run C #[.string rn, .string ri, .string ro, .int .i64 rm, .int .i64 rs] k (by have := HKN.out; omega) hi
      clear hr
      have hne : ¬ rn = s := by have h := HNN.out k hlt; rw [← HRK.out] at h; exact h
      have hs2 : (rn.toList == s.toList) = false := by
        rw [beq_eq_false_iff_ne, toList_eq, toList_eq]
        intro e
        exact hne (bytes_inj.1 e)
      have Q2 := Lib.hid (HQ.out.keep (nal (Obj.cells #[.string rn, .string ri, .string ro, .int .i64 rm, .int .i64 rs] 69)))
      have B2 := Lib.hid (HB.out.trans ((nal (Obj.cells #[.string rn, .string ri, .string ro, .int .i64 rm, .int .i64 rs] 69)).mono HB.out.size))
      clear hne nal
      go_wp2_with fail
      go_roundw
      case rel => exact ⟨k + 1, by omega, by go_num, Lib.hid ⟨Q2.out, B2.out⟩⟩
      case measure => (simp [intOf]) <;> omega
    · obtain rfl : k = 33 := by omega
      clear nal
      have q_0 := HQ.out.c 0 _ rfl
      have q_1 := HQ.out.c 1 _ rfl
      have q_2 := HQ.out.c 2 _ rfl
      have q_3 := HQ.out.c 3 _ rfl
      have q_4 := HQ.out.c 4 _ rfl
      have q_5 := HQ.out.c 5 _ rfl
      have q_z := HQ.out.fz
      go_wp2_with fail
      have hs := HQ.out.setRow [.string ⟨#[]⟩, .slice none 0 0, .slice none 0 0, .slice none 0 0, .int .i64 0, .int .i64 0] rfl
      have hB := set_below HB.out HWQ.out [.string ⟨#[]⟩, .slice none 0 0, .slice none 0 0, .slice none 0 0, .int .i64 0, .int .i64 0]
      have y0 : ((((((wr.setCell ⟨q, 0, none⟩ (.string ⟨#[]⟩)).setCell ⟨q, 1, none⟩ (.slice none 0 0)).setCell ⟨q, 2, none⟩ (.slice none 0 0)).setCell ⟨q, 3, none⟩ (.slice none 0 0)).setCell ⟨q, 4, none⟩ (.int .i64 0)).setCell ⟨q, 5, none⟩ (.int .i64 0)).cell? ⟨q, 0, none⟩ = some (.string ⟨#[]⟩) := hs.c 0 _ rfl
      have y1 : ((((((wr.setCell ⟨q, 0, none⟩ (.string ⟨#[]⟩)).setCell ⟨q, 1, none⟩ (.slice none 0 0)).setCell ⟨q, 2, none⟩ (.slice none 0 0)).setCell ⟨q, 3, none⟩ (.slice none 0 0)).setCell ⟨q, 4, none⟩ (.int .i64 0)).setCell ⟨q, 5, none⟩ (.int .i64 0)).cell? ⟨q, 1, none⟩ = some (.slice none 0 0) := hs.c 1 _ rfl
      have y2 : ((((((wr.setCell ⟨q, 0, none⟩ (.string ⟨#[]⟩)).setCell ⟨q, 1, none⟩ (.slice none 0 0)).setCell ⟨q, 2, none⟩ (.slice none 0 0)).setCell ⟨q, 3, none⟩ (.slice none 0 0)).setCell ⟨q, 4, none⟩ (.int .i64 0)).setCell ⟨q, 5, none⟩ (.int .i64 0)).cell? ⟨q, 2, none⟩ = some (.slice none 0 0) := hs.c 2 _ rfl
      have y3 : ((((((wr.setCell ⟨q, 0, none⟩ (.string ⟨#[]⟩)).setCell ⟨q, 1, none⟩ (.slice none 0 0)).setCell ⟨q, 2, none⟩ (.slice none 0 0)).setCell ⟨q, 3, none⟩ (.slice none 0 0)).setCell ⟨q, 4, none⟩ (.int .i64 0)).setCell ⟨q, 5, none⟩ (.int .i64 0)).cell? ⟨q, 3, none⟩ = some (.slice none 0 0) := hs.c 3 _ rfl
      have y4 : ((((((wr.setCell ⟨q, 0, none⟩ (.string ⟨#[]⟩)).setCell ⟨q, 1, none⟩ (.slice none 0 0)).setCell ⟨q, 2, none⟩ (.slice none 0 0)).setCell ⟨q, 3, none⟩ (.slice none 0 0)).setCell ⟨q, 4, none⟩ (.int .i64 0)).setCell ⟨q, 5, none⟩ (.int .i64 0)).cell? ⟨q, 4, none⟩ = some (.int .i64 0) := hs.c 4 _ rfl
      have y5 : ((((((wr.setCell ⟨q, 0, none⟩ (.string ⟨#[]⟩)).setCell ⟨q, 1, none⟩ (.slice none 0 0)).setCell ⟨q, 2, none⟩ (.slice none 0 0)).setCell ⟨q, 3, none⟩ (.slice none 0 0)).setCell ⟨q, 4, none⟩ (.int .i64 0)).setCell ⟨q, 5, none⟩ (.int .i64 0)).cell? ⟨q, 5, none⟩ = some (.int .i64 0) := hs.c 5 _ rfl
      (try simp only [Exit.inBlock, Exit.then])
      refine bodyPost_ret (by simp [results, Tryd.results13, go_sem, y0, y1, y2, y3, y4, y5]; try rfl) rfl ?_
      exact ⟨rfl, hB⟩
theorem find_miss (s : ByteArray) (hn : ∀ j, j < 33 → ¬ (rowAt j).nm = s) (w : World) :
    Calls Tryd.prog 13 #[.string s] w fun e w' => e = .returned (.tuple #[.agg #[.string ⟨#[]⟩, .slice none 0 0, .slice none 0 0, .slice none 0 0, .int .i64 0, .int .i64 0], .int .i64 3]) ∧ Below w.heap.size w w' :=
  find_miss_core tableC.toArray (Lib.hid library_any) (Lib.hid idx_row) s hn w
end Go.Proofs.YtaobbedajgkmiaaDoor
