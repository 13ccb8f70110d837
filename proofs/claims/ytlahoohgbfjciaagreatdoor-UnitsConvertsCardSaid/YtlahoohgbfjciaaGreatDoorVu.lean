/- awake answers yes. -/
import Derived.Test.YtlahoohgbfjciaaGreatDoorVp
import Derived.Test.YtlahoohgbfjciaaGreatDoorVt
import Derived.Test.YtlahoohgbfjciaaGreatDoorUz
namespace Go.Proofs.YtlahoohgbfjciaaGreatDoor
open Go.RowKit Go.Shelf

set_option maxRecDepth 100000 in
set_option maxHeartbeats 4000000 in
theorem awake_yes (w : World) (hg : Gu w) : Calls Tryz.prog 6 #[] w fun e w' => e = .returned (.bool true) ∧ Below w.heap.size w w' := by
  have P1 := Lib.hid (show ∀ w, Gu w → Calls Tryz.prog 20 #[.string ⟨#[107, 74, 47, 107, 103, 46, 75]⟩] w fun e w' => e = .returned (.tuple #[.agg #[.int .i64 2, .int .i64 0, .int .i64 (-2), .int .i64 (-1), .int .i64 1000, .int .i64 1, .int .i64 0], .int .i64 0]) ∧ Below w.heap.size w w' from fun w hg => (parse_any ⟨#[107, 74, 47, 107, 103, 46, 75]⟩ w (by decide) hg).mono fun e w' h => ⟨by rw [h.1, show parseR ⟨#[107, 74, 47, 107, 103, 46, 75]⟩ = _ from ex1], h.2⟩)
  have P2 := Lib.hid (show ∀ w, Gu w → Calls Tryz.prog 20 #[.string ⟨#[100, 101, 103, 67]⟩] w fun e w' => e = .returned (.tuple #[.agg #[.int .i64 0, .int .i64 0, .int .i64 0, .int .i64 1, .int .i64 1, .int .i64 1, .int .i64 273150], .int .i64 0]) ∧ Below w.heap.size w w' from fun w hg => (parse_any ⟨#[100, 101, 103, 67]⟩ w (by decide) hg).mono fun e w' h => ⟨by rw [h.1, show parseR ⟨#[100, 101, 103, 67]⟩ = _ from ex3], h.2⟩)
  have P3 := Lib.hid (show ∀ w, Gu w → Calls Tryz.prog 20 #[.string ⟨#[75]⟩] w fun e w' => e = .returned (.tuple #[.agg #[.int .i64 0, .int .i64 0, .int .i64 0, .int .i64 1, .int .i64 1, .int .i64 1, .int .i64 0], .int .i64 0]) ∧ Below w.heap.size w w' from fun w hg => (parse_any ⟨#[75]⟩ w (by decide) hg).mono fun e w' h => ⟨by rw [h.1, show parseR ⟨#[75]⟩ = _ from ex4], h.2⟩)
  have P4 := Lib.hid (show ∀ w, Gu w → Calls Tryz.prog 20 #[.string ⟨#[108, 47, 115]⟩] w fun e w' => e = .returned (.tuple #[.agg #[.int .i64 3, .int .i64 0, .int .i64 (-1), .int .i64 0, .int .i64 1, .int .i64 1000, .int .i64 0], .int .i64 0]) ∧ Below w.heap.size w w' from fun w hg => (parse_any ⟨#[108, 47, 115]⟩ w (by decide) hg).mono fun e w' h => ⟨by rw [h.1, show parseR ⟨#[108, 47, 115]⟩ = _ from ex6], h.2⟩)
  have P5 := Lib.hid (show ∀ w, Gu w → Calls Tryz.prog 20 #[.string ⟨#[109, 51, 47, 104]⟩] w fun e w' => e = .returned (.tuple #[.agg #[.int .i64 3, .int .i64 0, .int .i64 (-1), .int .i64 0, .int .i64 1, .int .i64 3600, .int .i64 0], .int .i64 0]) ∧ Below w.heap.size w w' from fun w hg => (parse_any ⟨#[109, 51, 47, 104]⟩ w (by decide) hg).mono fun e w' h => ⟨by rw [h.1, show parseR ⟨#[109, 51, 47, 104]⟩ = _ from ex7], h.2⟩)
  have P6 := Lib.hid (show ∀ w, Gu w → Calls Tryz.prog 20 #[.string ⟨#[100, 101, 103, 67, 47, 115]⟩] w fun e w' => e = .returned (.tuple #[.agg #[.int .i64 0, .int .i64 0, .int .i64 0, .int .i64 0, .int .i64 0, .int .i64 0, .int .i64 0], .int .i64 11]) ∧ Below w.heap.size w w' from fun w hg => (parse_any ⟨#[100, 101, 103, 67, 47, 115]⟩ w (by decide) hg).mono fun e w' h => ⟨by rw [h.1, show parseR ⟨#[100, 101, 103, 67, 47, 115]⟩ = _ from ex9]; rfl, h.2⟩)
  have P7 := Lib.hid (show ∀ w, Gu w → Calls Tryz.prog 20 #[.string ⟨#[109, 47, 47, 115]⟩] w fun e w' => e = .returned (.tuple #[.agg #[.int .i64 0, .int .i64 0, .int .i64 0, .int .i64 0, .int .i64 0, .int .i64 0, .int .i64 0], .int .i64 2]) ∧ Below w.heap.size w w' from fun w hg => (parse_any ⟨#[109, 47, 47, 115]⟩ w (by decide) hg).mono fun e w' h => ⟨by rw [h.1, show parseR ⟨#[109, 47, 47, 115]⟩ = _ from ex10]; rfl, h.2⟩)
  have PR := Lib.hid (show ∀ w, Gu w → Calls Tryz.prog 21 #[.agg #[.int .i64 2, .int .i64 0, .int .i64 (-2), .int .i64 (-1), .int .i64 1000, .int .i64 1, .int .i64 0]] w fun e w' => e = .returned (.tuple #[.string ⟨#[49, 48, 48, 48, 42, 109, 50, 47, 115, 50, 46, 75]⟩, .int .i64 0]) ∧ Below w.heap.size w w' from fun w hg => (print_any ⟨2, 0, -2, -1, 1000, 1, 0⟩ w hg).mono fun e w' h => ⟨by rw [h.1, ex2], h.2⟩)
  have C1 := Lib.hid (show ∀ w, Calls Tryz.prog 4 #[.int .i64 20000, .agg #[.int .i64 0, .int .i64 0, .int .i64 0, .int .i64 1, .int .i64 1, .int .i64 1, .int .i64 273150], .agg #[.int .i64 0, .int .i64 0, .int .i64 0, .int .i64 1, .int .i64 1, .int .i64 1, .int .i64 0]] w fun e w' => e = .returned (.tuple #[.int .i64 293150, .int .i64 0]) ∧ Below w.heap.size w w' from fun w => (convert_any 20000 ⟨0, 0, 0, 1, 1, 1, 273150⟩ ⟨0, 0, 0, 1, 1, 1, 0⟩ w).mono fun e w' h => ⟨by rw [h.1, ex5], h.2⟩)
  have C2 := Lib.hid (show ∀ w, Calls Tryz.prog 4 #[.int .i64 1000, .agg #[.int .i64 3, .int .i64 0, .int .i64 (-1), .int .i64 0, .int .i64 1, .int .i64 1000, .int .i64 0], .agg #[.int .i64 3, .int .i64 0, .int .i64 (-1), .int .i64 0, .int .i64 1, .int .i64 3600, .int .i64 0]] w fun e w' => e = .returned (.tuple #[.int .i64 3600, .int .i64 0]) ∧ Below w.heap.size w w' from fun w => (convert_any 1000 ⟨3, 0, -1, 0, 1, 1000, 0⟩ ⟨3, 0, -1, 0, 1, 3600, 0⟩ w).mono fun e w' h => ⟨by rw [h.1, ex8], h.2⟩)
  have DL := Lib.hid (show ∀ w, Calls Tryz.prog 22 #[.agg #[.int .i64 0, .int .i64 0, .int .i64 0, .int .i64 1, .int .i64 1, .int .i64 1, .int .i64 273150]] w fun e w' => e = .returned (.tuple #[.agg #[.int .i64 0, .int .i64 0, .int .i64 0, .int .i64 1, .int .i64 1, .int .i64 1, .int .i64 0], .int .i64 0]) ∧ Below w.heap.size w w' from fun w => (delta_any 0 0 0 1 1 1 273150 w).mono fun e w' h => ⟨h.1.trans (congrArg Ending.returned (if_pos (by decide +kernel))), h.2⟩)
  go_enter Tryz.func6, Tryz.ntmps6
  have G0 := Lib.hid hg
  have B0 := Lib.hid (Below.refl w.heap.size w)
  clear hg
  go_wp2_with fail
  refine (P1.out _ G0.out).mono ?_
  rintro e v1 ⟨rfl, hb⟩
  have hk := hb.alloc hb.size (Obj.cells #[.int .i64 2, .int .i64 0, .int .i64 (-2), .int .i64 (-1), .int .i64 1000, .int .i64 1, .int .i64 0] 28)
  obtain ⟨w1, hw⟩ : ∃ x, x = v1.alloc (Obj.cells #[.int .i64 2, .int .i64 0, .int .i64 (-2), .int .i64 (-1), .int .i64 1000, .int .i64 1, .int .i64 0] 28) := ⟨_, rfl⟩
  obtain ⟨bu, hbx⟩ : ∃ x, x = v1.heap.size := ⟨_, rfl⟩
  have hx := unit_fresh v1 2 0 (-2) (-1) 1000 1 0
  rw [← hw] at hk hx
  rw [← hbx] at hx
  have B1 := Lib.hid (B0.out.trans (hk.mono B0.out.size))
  have G1 := Lib.hid (G0.out.below hk)
  have Hu1 := Lib.hid hx
  have HW := Lib.hid hw
  have HBX := Lib.hid hbx
  clear hw hbx hx
  clear hb hk G0 B0 
  have F := Hu1.out
  rw [HW.out, HBX.out] at F
  obtain ⟨u0, u1, u2, u3, u4, u5, u6, uz⟩ := F
  go_wp2_with fail
  rw [← HW.out]
  try rw [← HBX.out]
  clear HW HBX
  refine (PR.out _ G1.out).mono ?_
  rintro e v2 ⟨rfl, hb⟩
  clear u0 u1 u2 u3 u4 u5 u6 uz
  have hk := hb
  have B2 := Lib.hid (B1.out.trans (hk.mono B1.out.size))
  have G2 := Lib.hid (G1.out.below hk)
  have Hu2 := Lib.hid (Hu1.out.keep hk)
  clear hb hk G1 B1 Hu1
  go_wp2_with fail
  refine (P2.out _ G2.out).mono ?_
  rintro e v3 ⟨rfl, hb⟩
  have hk := hb.alloc hb.size (Obj.cells #[.int .i64 0, .int .i64 0, .int .i64 0, .int .i64 1, .int .i64 1, .int .i64 1, .int .i64 273150] 28)
  obtain ⟨w3, hw⟩ : ∃ x, x = v3.alloc (Obj.cells #[.int .i64 0, .int .i64 0, .int .i64 0, .int .i64 1, .int .i64 1, .int .i64 1, .int .i64 273150] 28) := ⟨_, rfl⟩
  obtain ⟨bc, hbx⟩ : ∃ x, x = v3.heap.size := ⟨_, rfl⟩
  have hx := unit_fresh v3 0 0 0 1 1 1 273150
  rw [← hw] at hk hx
  rw [← hbx] at hx
  have B3 := Lib.hid (B2.out.trans (hk.mono B2.out.size))
  have G3 := Lib.hid (G2.out.below hk)
  have Hu3 := Lib.hid (Hu2.out.keep hk)
  have Hc3 := Lib.hid hx
  have HW := Lib.hid hw
  have HBX := Lib.hid hbx
  clear hw hbx hx
  clear hb hk G2 B2 Hu2
  go_wp2_with fail
  rw [← HW.out]
  try rw [← HBX.out]
  clear HW HBX
  refine (P3.out _ G3.out).mono ?_
  rintro e v4 ⟨rfl, hb⟩
  have hk := hb.alloc hb.size (Obj.cells #[.int .i64 0, .int .i64 0, .int .i64 0, .int .i64 1, .int .i64 1, .int .i64 1, .int .i64 0] 28)
  obtain ⟨w4, hw⟩ : ∃ x, x = v4.alloc (Obj.cells #[.int .i64 0, .int .i64 0, .int .i64 0, .int .i64 1, .int .i64 1, .int .i64 1, .int .i64 0] 28) := ⟨_, rfl⟩
  obtain ⟨bk, hbx⟩ : ∃ x, x = v4.heap.size := ⟨_, rfl⟩
  have hx := unit_fresh v4 0 0 0 1 1 1 0
  rw [← hw] at hk hx
  rw [← hbx] at hx
  have B4 := Lib.hid (B3.out.trans (hk.mono B3.out.size))
  have G4 := Lib.hid (G3.out.below hk)
  have Hu4 := Lib.hid (Hu3.out.keep hk)
  have Hc4 := Lib.hid (Hc3.out.keep hk)
  have Hk4 := Lib.hid hx
  have HW := Lib.hid hw
  have HBX := Lib.hid hbx
  clear hw hbx hx
  clear hb hk G3 B3 Hu3 Hc3
  have F := Hc4.out
  rw [HW.out] at F
  obtain ⟨c0, c1, c2, c3, c4, c5, c6, cz⟩ := F
  have F := Hk4.out
  rw [HW.out, HBX.out] at F
  obtain ⟨k0, k1, k2, k3, k4, k5, k6, kz⟩ := F
  go_wp2_with fail
  rw [← HW.out]
  try rw [← HBX.out]
  clear HW HBX
  refine (C1.out _).mono ?_
  rintro e v5 ⟨rfl, hb⟩
  clear c0 c1 c2 c3 c4 c5 c6 cz k0 k1 k2 k3 k4 k5 k6 kz
  have hk := hb
  have B5 := Lib.hid (B4.out.trans (hk.mono B4.out.size))
  have G5 := Lib.hid (G4.out.below hk)
  have Hu5 := Lib.hid (Hu4.out.keep hk)
  have Hc5 := Lib.hid (Hc4.out.keep hk)
  have Hk5 := Lib.hid (Hk4.out.keep hk)
  clear hb hk G4 B4 Hu4 Hc4 Hk4
  go_wp2_with fail
  refine (P4.out _ G5.out).mono ?_
  rintro e v6 ⟨rfl, hb⟩
  have hk := hb.alloc hb.size (Obj.cells #[.int .i64 3, .int .i64 0, .int .i64 (-1), .int .i64 0, .int .i64 1, .int .i64 1000, .int .i64 0] 28)
  obtain ⟨w6, hw⟩ : ∃ x, x = v6.alloc (Obj.cells #[.int .i64 3, .int .i64 0, .int .i64 (-1), .int .i64 0, .int .i64 1, .int .i64 1000, .int .i64 0] 28) := ⟨_, rfl⟩
  obtain ⟨bl, hbx⟩ : ∃ x, x = v6.heap.size := ⟨_, rfl⟩
  have hx := unit_fresh v6 3 0 (-1) 0 1 1000 0
  rw [← hw] at hk hx
  rw [← hbx] at hx
  have B6 := Lib.hid (B5.out.trans (hk.mono B5.out.size))
  have G6 := Lib.hid (G5.out.below hk)
  have Hu6 := Lib.hid (Hu5.out.keep hk)
  have Hc6 := Lib.hid (Hc5.out.keep hk)
  have Hk6 := Lib.hid (Hk5.out.keep hk)
  have Hl6 := Lib.hid hx
  have HW := Lib.hid hw
  have HBX := Lib.hid hbx
  clear hw hbx hx
  clear hb hk G5 B5 Hu5 Hc5 Hk5
  go_wp2_with fail
  rw [← HW.out]
  try rw [← HBX.out]
  clear HW HBX
  refine (P5.out _ G6.out).mono ?_
  rintro e v7 ⟨rfl, hb⟩
  have hk := hb.alloc hb.size (Obj.cells #[.int .i64 3, .int .i64 0, .int .i64 (-1), .int .i64 0, .int .i64 1, .int .i64 3600, .int .i64 0] 28)
  obtain ⟨w7, hw⟩ : ∃ x, x = v7.alloc (Obj.cells #[.int .i64 3, .int .i64 0, .int .i64 (-1), .int .i64 0, .int .i64 1, .int .i64 3600, .int .i64 0] 28) := ⟨_, rfl⟩
  obtain ⟨bh, hbx⟩ : ∃ x, x = v7.heap.size := ⟨_, rfl⟩
  have hx := unit_fresh v7 3 0 (-1) 0 1 3600 0
  rw [← hw] at hk hx
  rw [← hbx] at hx
  have B7 := Lib.hid (B6.out.trans (hk.mono B6.out.size))
  have G7 := Lib.hid (G6.out.below hk)
  have Hu7 := Lib.hid (Hu6.out.keep hk)
  have Hc7 := Lib.hid (Hc6.out.keep hk)
  have Hk7 := Lib.hid (Hk6.out.keep hk)
  have Hl7 := Lib.hid (Hl6.out.keep hk)
  have Hh7 := Lib.hid hx
  have HW := Lib.hid hw
  have HBX := Lib.hid hbx
  clear hw hbx hx
  clear hb hk G6 B6 Hu6 Hc6 Hk6 Hl6
  have F := Hl7.out
  rw [HW.out] at F
  obtain ⟨l0, l1, l2, l3, l4, l5, l6, lz⟩ := F
  have F := Hh7.out
  rw [HW.out, HBX.out] at F
  obtain ⟨h0, h1, h2, h3, h4, h5, h6, hz⟩ := F
  go_wp2_with fail
  rw [← HW.out]
  try rw [← HBX.out]
  clear HW HBX
  refine (C2.out _).mono ?_
  rintro e v8 ⟨rfl, hb⟩
  clear l0 l1 l2 l3 l4 l5 l6 lz h0 h1 h2 h3 h4 h5 h6 hz
  have hk := hb
  have B8 := Lib.hid (B7.out.trans (hk.mono B7.out.size))
  have G8 := Lib.hid (G7.out.below hk)
  have Hu8 := Lib.hid (Hu7.out.keep hk)
  have Hc8 := Lib.hid (Hc7.out.keep hk)
  have Hk8 := Lib.hid (Hk7.out.keep hk)
  clear hb hk G7 B7 Hu7 Hc7 Hk7 Hl7 Hh7
  go_wp2_with fail
  refine (P6.out _ G8.out).mono ?_
  rintro e v9 ⟨rfl, hb⟩
  have hk := hb.alloc hb.size (Obj.cells #[.int .i64 0, .int .i64 0, .int .i64 0, .int .i64 0, .int .i64 0, .int .i64 0, .int .i64 0] 28)
  obtain ⟨w9, hw⟩ : ∃ x, x = v9.alloc (Obj.cells #[.int .i64 0, .int .i64 0, .int .i64 0, .int .i64 0, .int .i64 0, .int .i64 0, .int .i64 0] 28) := ⟨_, rfl⟩
  obtain ⟨bq, hbx⟩ : ∃ x, x = v9.heap.size := ⟨_, rfl⟩
  have hx := unit_fresh v9 0 0 0 0 0 0 0
  rw [← hw] at hk hx
  rw [← hbx] at hx
  have B9 := Lib.hid (B8.out.trans (hk.mono B8.out.size))
  have G9 := Lib.hid (G8.out.below hk)
  have Hu9 := Lib.hid (Hu8.out.keep hk)
  have Hc9 := Lib.hid (Hc8.out.keep hk)
  have Hk9 := Lib.hid (Hk8.out.keep hk)
  have HW := Lib.hid hw
  have HBX := Lib.hid hbx
  clear hw hbx hx
  clear hb hk G8 B8 Hu8 Hc8 Hk8
  go_wp2_with fail
  rw [← HW.out]
  try rw [← HBX.out]
  clear HW HBX
  refine (P7.out _ G9.out).mono ?_
  rintro e v10 ⟨rfl, hb⟩
  have hk := hb.alloc hb.size (Obj.cells #[.int .i64 0, .int .i64 0, .int .i64 0, .int .i64 0, .int .i64 0, .int .i64 0, .int .i64 0] 28)
  obtain ⟨w10, hw⟩ : ∃ x, x = v10.alloc (Obj.cells #[.int .i64 0, .int .i64 0, .int .i64 0, .int .i64 0, .int .i64 0, .int .i64 0, .int .i64 0] 28) := ⟨_, rfl⟩
  obtain ⟨br, hbx⟩ : ∃ x, x = v10.heap.size := ⟨_, rfl⟩
  have hx := unit_fresh v10 0 0 0 0 0 0 0
  rw [← hw] at hk hx
  rw [← hbx] at hx
  have B10 := Lib.hid (B9.out.trans (hk.mono B9.out.size))
  have G10 := Lib.hid (G9.out.below hk)
  have Hu10 := Lib.hid (Hu9.out.keep hk)
  have Hc10 := Lib.hid (Hc9.out.keep hk)
  have Hk10 := Lib.hid (Hk9.out.keep hk)
  have HW := Lib.hid hw
  have HBX := Lib.hid hbx
  clear hw hbx hx
  clear hb hk G9 B9 Hu9 Hc9 Hk9
  have F := Hc10.out
  rw [HW.out] at F
  obtain ⟨c0, c1, c2, c3, c4, c5, c6, cz⟩ := F
  go_wp2_with fail
  rw [← HW.out]
  try rw [← HBX.out]
  clear HW HBX
  refine (DL.out _).mono ?_
  rintro e v11 ⟨rfl, hb⟩
  clear c0 c1 c2 c3 c4 c5 c6 cz
  have hk := hb.alloc hb.size (Obj.cells #[.int .i64 0, .int .i64 0, .int .i64 0, .int .i64 1, .int .i64 1, .int .i64 1, .int .i64 0] 28)
  obtain ⟨w11, hw⟩ : ∃ x, x = v11.alloc (Obj.cells #[.int .i64 0, .int .i64 0, .int .i64 0, .int .i64 1, .int .i64 1, .int .i64 1, .int .i64 0] 28) := ⟨_, rfl⟩
  obtain ⟨bd, hbx⟩ : ∃ x, x = v11.heap.size := ⟨_, rfl⟩
  have hx := unit_fresh v11 0 0 0 1 1 1 0
  rw [← hw] at hk hx
  rw [← hbx] at hx
  have B11 := Lib.hid (B10.out.trans (hk.mono B10.out.size))
  have G11 := Lib.hid (G10.out.below hk)
  have Hu11 := Lib.hid (Hu10.out.keep hk)
  have Hk11 := Lib.hid (Hk10.out.keep hk)
  have Hd11 := Lib.hid hx
  have HW := Lib.hid hw
  have HBX := Lib.hid hbx
  clear hw hbx hx
  clear hb hk G10 B10 Hu10 Hc10 Hk10
  have F := Hu11.out
  rw [HW.out] at F
  obtain ⟨u0, u1, u2, u3, u4, u5, u6, uz⟩ := F
  have F := Hk11.out
  rw [HW.out] at F
  obtain ⟨k0, k1, k2, k3, k4, k5, k6, kz⟩ := F
  have F := Hd11.out
  rw [HW.out, HBX.out] at F
  obtain ⟨d0, d1, d2, d3, d4, d5, d6, dz⟩ := F
  have E1 := fun w => (eq_unit 2 0 (-2) (-1) 1000 1 0 2 0 (-2) (-1) 1000 1 0 w).trans (show _ = Result.ok true w from rfl)
  have E2 := fun w => (eq_unit 0 0 0 1 1 1 0 0 0 0 1 1 1 0 w).trans (show _ = Result.ok true w from rfl)
  go_wp2_with fail
  go_ret
  have hB := B11.out
  rw [HW.out] at hB
  exact ⟨rfl, hB⟩

end Go.Proofs.YtlahoohgbfjciaaGreatDoor
