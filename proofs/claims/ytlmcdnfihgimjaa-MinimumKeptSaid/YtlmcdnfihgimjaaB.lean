/- Contracts of times and what it yields, Time, Held (both), Until. -/
import Derived.Test.YtlmcdnfihgimjaaA
namespace Go.Proofs.Ytlmcdnfihgimjaa
open Go.RowKit

def heldP (p : Pt) (k n c now : Int) : Bool := decide (IntKind.i64.wrap (now - c) < timeP p k n)
theorem bin_cases (p : Pt) : (binP p = true ∧ p.rl = 2 ∧ p.kd = 2) ∨ binP p = false := by
  unfold binP
  by_cases h1 : p.rl = 2 <;> by_cases h2 : p.kd = 2 <;> simp [h1, h2]

set_option maxHeartbeats 4000000 in
set_option maxRecDepth 100000 in
theorem rtime_any (p : Pt) (k n c : Int) (w : World) : Calls Try.prog 26 #[ptV p, .agg #[.int .i64 k, .int .i64 n, .int .i64 c]] w fun e w' => e = .returned (.int .i64 (timeP p k n)) ∧ Below w.heap.size w w' := by
  obtain ⟨nm, kd, rl, un, lo, hi, st, ss, dk, dn, on, off⟩ := p
  obtain ⟨W, g, h, hW, hg, hh, RP, RO, B, sz⟩ := box2 w #[nm, .int .i64 kd, .int .i64 rl, un, lo, hi, st, ss, dk, dn, .int .i64 on, .int .i64 off] 26 #[.int .i64 k, .int .i64 n, .int .i64 c] 28
  obtain ⟨Z, hZ⟩ : ∃ Z, Z = binP ⟨nm, kd, rl, un, lo, hi, st, ss, dk, dn, on, off⟩ := ⟨_, rfl⟩
  have hc := fun w => rbin_any ⟨nm, kd, rl, un, lo, hi, st, ss, dk, dn, on, off⟩ w
  rw [← hZ] at hc
  have HC := Lib.hid hc
  have HB := Lib.hid B
  have HT := Lib.hid (show timeP ⟨nm, kd, rl, un, lo, hi, st, ss, dk, dn, on, off⟩ k n = if Z = true then (if k = 2 ∧ n = 1 then on else if k = 2 ∧ n = 0 then off else 0) else 0 by rw [hZ]; rfl)
  clear hc hZ B
  go_enter Try.func26, Try.ntmps26
  go_wp2_with fail
  rw [← hW]
  try rw [← hh]
  try rw [← hg]
  clear hW hg hh sz
  have p0 := RP.c 0 _ rfl
  have p1 := RP.c 1 _ rfl
  have p2 := RP.c 2 _ rfl
  have p3 := RP.c 3 _ rfl
  have p4 := RP.c 4 _ rfl
  have p5 := RP.c 5 _ rfl
  have p6 := RP.c 6 _ rfl
  have p7 := RP.c 7 _ rfl
  have p8 := RP.c 8 _ rfl
  have p9 := RP.c 9 _ rfl
  have p10 := RP.c 10 _ rfl
  have p11 := RP.c 11 _ rfl
  go_wp2_with fail
  refine (HC.out _).mono ?_
  rintro e w1 ⟨rfl, hb⟩
  have RO1 := Lib.hid (RO.keep hb)
  have HB1 := Lib.hid (HB.out.trans (hb.mono HB.out.size))
  have RP1 := Lib.hid (RP.keep hb)
  clear hb RP RO HB
  clear p0 p1 p2 p3 p4 p5 p6 p7 p8 p9 p10 p11
  have p0 := RP1.out.c 0 _ rfl
  have p1 := RP1.out.c 1 _ rfl
  have p2 := RP1.out.c 2 _ rfl
  have p3 := RP1.out.c 3 _ rfl
  have p4 := RP1.out.c 4 _ rfl
  have p5 := RP1.out.c 5 _ rfl
  have p6 := RP1.out.c 6 _ rfl
  have p7 := RP1.out.c 7 _ rfl
  have p8 := RP1.out.c 8 _ rfl
  have p9 := RP1.out.c 9 _ rfl
  have p10 := RP1.out.c 10 _ rfl
  have p11 := RP1.out.c 11 _ rfl
  have o0 := RO1.out.c 0 _ rfl
  have o1 := RO1.out.c 1 _ rfl
  have o2 := RO1.out.c 2 _ rfl

  cases Z
  · go_wp2_with fail
    go_ret
    exact ⟨by rw [HT.out]; simp, HB1.out⟩
  · by_cases h1 : k = 2
    · by_cases h2 : n = 0
      · go_wp2_with fail
        go_ret
        exact ⟨by rw [HT.out]; simp [h1, h2], HB1.out⟩
      · by_cases h3 : n = 1
        all_goals
          go_wp2_with fail
          go_ret
          exact ⟨by rw [HT.out]; simp [h1, h2, h3], HB1.out⟩
    · go_wp2_with fail
      go_ret
      exact ⟨by rw [HT.out]; simp [h1], HB1.out⟩

set_option maxHeartbeats 4000000 in
set_option maxRecDepth 100000 in
theorem times1_any (p : Pt) (k n : Int) (b : Nat) (w : World) (hp : RowAt w b (ptL p)) : Calls Try.prog 27 #[.agg #[.int .i64 k, .int .i64 n], .pointer (some ⟨b, 0, none⟩)] w fun e w' => e = .returned (.int .i64 (timeP p k n)) ∧ Below w.heap.size w w' := by
  obtain ⟨nm, kd, rl, un, lo, hi, st, ss, dk, dn, on, off⟩ := p
  obtain ⟨W, h, hW, hh, RO, B, sz⟩ := box1 w #[.int .i64 k, .int .i64 n] 24
  obtain ⟨Z, hZ⟩ : ∃ Z, Z = binP ⟨nm, kd, rl, un, lo, hi, st, ss, dk, dn, on, off⟩ := ⟨_, rfl⟩
  have hc := fun w => bin_any ⟨nm, kd, rl, un, lo, hi, st, ss, dk, dn, on, off⟩ w
  rw [← hZ] at hc
  have HC := Lib.hid hc
  have HB := Lib.hid B
  have HT := Lib.hid (show timeP ⟨nm, kd, rl, un, lo, hi, st, ss, dk, dn, on, off⟩ k n = if Z = true then (if k = 2 ∧ n = 1 then on else if k = 2 ∧ n = 0 then off else 0) else 0 by rw [hZ]; rfl)
  have RP : RowAt W b [nm, .int .i64 kd, .int .i64 rl, un, lo, hi, st, ss, dk, dn, .int .i64 on, .int .i64 off] := hp.keep B
  clear hc hZ B hp
  have p0 := RP.c 0 _ rfl
  have p1 := RP.c 1 _ rfl
  have p2 := RP.c 2 _ rfl
  have p3 := RP.c 3 _ rfl
  have p4 := RP.c 4 _ rfl
  have p5 := RP.c 5 _ rfl
  have p6 := RP.c 6 _ rfl
  have p7 := RP.c 7 _ rfl
  have p8 := RP.c 8 _ rfl
  have p9 := RP.c 9 _ rfl
  have p10 := RP.c 10 _ rfl
  have p11 := RP.c 11 _ rfl
  rw [hW] at p0 p1 p2 p3 p4 p5 p6 p7 p8 p9 p10 p11
  go_enter Try.func27, Try.ntmps27
  go_wp2_with fail
  rw [← hW] at p0 p1 p2 p3 p4 p5 p6 p7 p8 p9 p10 p11 ⊢
  try rw [← hh]
  clear hW hh sz
  refine (HC.out _).mono ?_
  rintro e w1 ⟨rfl, hb⟩
  have RO1 := Lib.hid (RO.keep hb)
  have HB1 := Lib.hid (HB.out.trans (hb.mono HB.out.size))
  have RP1 := Lib.hid (RP.keep hb)
  clear hb RP RO HB
  clear p0 p1 p2 p3 p4 p5 p6 p7 p8 p9 p10 p11
  have p0 := RP1.out.c 0 _ rfl
  have p1 := RP1.out.c 1 _ rfl
  have p2 := RP1.out.c 2 _ rfl
  have p3 := RP1.out.c 3 _ rfl
  have p4 := RP1.out.c 4 _ rfl
  have p5 := RP1.out.c 5 _ rfl
  have p6 := RP1.out.c 6 _ rfl
  have p7 := RP1.out.c 7 _ rfl
  have p8 := RP1.out.c 8 _ rfl
  have p9 := RP1.out.c 9 _ rfl
  have p10 := RP1.out.c 10 _ rfl
  have p11 := RP1.out.c 11 _ rfl
  have o0 := RO1.out.c 0 _ rfl
  have o1 := RO1.out.c 1 _ rfl

  cases Z
  · go_wp2_with fail
    go_ret
    exact ⟨by rw [HT.out]; simp, HB1.out⟩
  · by_cases h1 : k = 2
    · by_cases h2 : n = 0
      · go_wp2_with fail
        go_ret
        exact ⟨by rw [HT.out]; simp [h1, h2], HB1.out⟩
      · by_cases h3 : n = 1
        all_goals
          go_wp2_with fail
          go_ret
          exact ⟨by rw [HT.out]; simp [h1, h2, h3], HB1.out⟩
    · go_wp2_with fail
      go_ret
      exact ⟨by rw [HT.out]; simp [h1], HB1.out⟩

set_option maxRecDepth 100000 in
theorem times_any (p : Pt) (w : World) : Calls Try.prog 24 #[ptV p] w fun e w' => ∃ b, e = .returned (.func (.func 27) #[] #[.pointer (some ⟨b, 0, none⟩)]) ∧ RowAt w' b (ptL p) ∧ Below w.heap.size w w' := by
  obtain ⟨nm, kd, rl, un, lo, hi, st, ss, dk, dn, on, off⟩ := p
  obtain ⟨W, g, hW, hg, RP, B, sz⟩ := box1 w #[nm, .int .i64 kd, .int .i64 rl, un, lo, hi, st, ss, dk, dn, .int .i64 on, .int .i64 off] 26
  have hmf : ∀ (fn : Fn) (first cap : Array Value) (w : World), (Instr.makeFunc fn first cap).run Try.prog w = .ok (.func fn first cap) w := fun _ _ _ _ => rfl
  go_enter Try.func24, Try.ntmps24
  go_wp2_with fail
  rw [← hW]
  try rw [← hg]
  go_ret
  exact ⟨g, rfl, RP, by rw [hg]; exact B⟩

abbrev Tw (w : World) (g h : Nat) (nm : Value) (kd rl : Int) (un lo hi st ss dk dn : Value) (on off k n c : Int) (w' : World) : Prop := w'.cell? ⟨g, 0, none⟩ = some (nm) ∧ w'.cell? ⟨g, 1, none⟩ = some (.int .i64 kd) ∧ w'.cell? ⟨g, 2, none⟩ = some (.int .i64 rl) ∧ w'.cell? ⟨g, 3, none⟩ = some (un) ∧ w'.cell? ⟨g, 4, none⟩ = some (lo) ∧ w'.cell? ⟨g, 5, none⟩ = some (hi) ∧ w'.cell? ⟨g, 6, none⟩ = some (st) ∧ w'.cell? ⟨g, 7, none⟩ = some (ss) ∧ w'.cell? ⟨g, 8, none⟩ = some (dk) ∧ w'.cell? ⟨g, 9, none⟩ = some (dn) ∧ w'.cell? ⟨g, 10, none⟩ = some (.int .i64 on) ∧ w'.cell? ⟨g, 11, none⟩ = some (.int .i64 off) ∧ w'.cell? ⟨h, 0, none⟩ = some (.int .i64 k) ∧ w'.cell? ⟨h, 1, none⟩ = some (.int .i64 n) ∧ w'.cell? ⟨h, 2, none⟩ = some (.int .i64 c) ∧ Below w.heap.size w w'
theorem tw_keep {w : World} {g h : Nat} {nm : Value} {kd rl : Int} {un lo hi st ss dk dn : Value} {on off k n c : Int} {w1 w2 : World} (hb : Below w1.heap.size w1 w2) (s : Tw w g h nm kd rl un lo hi st ss dk dn on off k n c w1) : Tw w g h nm kd rl un lo hi st ss dk dn on off k n c w2 := by
  obtain ⟨s0, s1, s2, s3, s4, s5, s6, s7, s8, s9, s10, s11, s12, s13, s14, B⟩ := s
  have hg : g < w1.heap.size := World.block_lt_of_cell? _ _ s0
  have hh : h < w1.heap.size := World.block_lt_of_cell? _ _ s12
  exact ⟨(hb.cell (p := ⟨g, 0, none⟩) hg).trans s0, (hb.cell (p := ⟨g, 1, none⟩) hg).trans s1, (hb.cell (p := ⟨g, 2, none⟩) hg).trans s2, (hb.cell (p := ⟨g, 3, none⟩) hg).trans s3, (hb.cell (p := ⟨g, 4, none⟩) hg).trans s4, (hb.cell (p := ⟨g, 5, none⟩) hg).trans s5, (hb.cell (p := ⟨g, 6, none⟩) hg).trans s6, (hb.cell (p := ⟨g, 7, none⟩) hg).trans s7, (hb.cell (p := ⟨g, 8, none⟩) hg).trans s8, (hb.cell (p := ⟨g, 9, none⟩) hg).trans s9, (hb.cell (p := ⟨g, 10, none⟩) hg).trans s10, (hb.cell (p := ⟨g, 11, none⟩) hg).trans s11, (hb.cell (p := ⟨h, 0, none⟩) hh).trans s12, (hb.cell (p := ⟨h, 1, none⟩) hh).trans s13, (hb.cell (p := ⟨h, 2, none⟩) hh).trans s14, B.trans (hb.mono B.size)⟩
theorem tw_drew {w : World} {g h : Nat} {nm : Value} {kd rl : Int} {un lo hi st ss dk dn : Value} {on off k n c : Int} {w1 : World} (s : Tw w g h nm kd rl un lo hi st ss dk dn on off k n c w1) : Tw w g h nm kd rl un lo hi st ss dk dn on off k n c w1.drew := tw_keep (Below.refl _ _).drew s
theorem tw_bel {w : World} {g h : Nat} {nm : Value} {kd rl : Int} {un lo hi st ss dk dn : Value} {on off k n c : Int} {w1 : World} (s : Tw w g h nm kd rl un lo hi st ss dk dn on off k n c w1) : Below w.heap.size w w1 := s.2.2.2.2.2.2.2.2.2.2.2.2.2.2.2

set_option maxHeartbeats 8000000 in
set_option maxRecDepth 100000 in
theorem held_any (p : Pt) (k n c now : Int) (w : World) : Calls Try.prog 17 #[ptV p, .agg #[.int .i64 k, .int .i64 n, .int .i64 c], .int .i64 now] w fun e w' => e = .returned (.bool (heldP p k n c now)) ∧ Below w.heap.size w w' := by
  obtain ⟨nm, kd, rl, un, lo, hi, st, ss, dk, dn, on, off⟩ := p
  obtain ⟨W, g, h, hW, hg, hh, RP, RO, B, sz⟩ := box2 w #[nm, .int .i64 kd, .int .i64 rl, un, lo, hi, st, ss, dk, dn, .int .i64 on, .int .i64 off] 26 #[.int .i64 k, .int .i64 n, .int .i64 c] 28
  have HT := Lib.hid (fun w => times_any ⟨nm, kd, rl, un, lo, hi, st, ss, dk, dn, on, off⟩ w)
  obtain ⟨T, hT⟩ : ∃ T, T = timeP ⟨nm, kd, rl, un, lo, hi, st, ss, dk, dn, on, off⟩ k n := ⟨_, rfl⟩
  have hu := fun b w h => times1_any ⟨nm, kd, rl, un, lo, hi, st, ss, dk, dn, on, off⟩ k n b w h
  rw [← hT] at hu
  have HU := Lib.hid hu
  clear hu
  unfold heldP
  rw [← hT]
  clear hT
  go_enter Try.func17, Try.ntmps17
  go_wp2_with fail
  rw [← hW]
  try rw [← hh]
  try rw [← hg]
  clear hW hg hh sz
  have p0 := RP.c 0 _ rfl
  have p1 := RP.c 1 _ rfl
  have p2 := RP.c 2 _ rfl
  have p3 := RP.c 3 _ rfl
  have p4 := RP.c 4 _ rfl
  have p5 := RP.c 5 _ rfl
  have p6 := RP.c 6 _ rfl
  have p7 := RP.c 7 _ rfl
  have p8 := RP.c 8 _ rfl
  have p9 := RP.c 9 _ rfl
  have p10 := RP.c 10 _ rfl
  have p11 := RP.c 11 _ rfl
  have o0 := RO.c 0 _ rfl
  have o1 := RO.c 1 _ rfl
  have o2 := RO.c 2 _ rfl
  have HS : Tw w g h nm kd rl un lo hi st ss dk dn on off k n c W := ⟨p0, p1, p2, p3, p4, p5, p6, p7, p8, p9, p10, p11, o0, o1, o2, B⟩
  have HD := Lib.hid HS
  have HDD := Lib.hid (tw_drew HS)
  clear HS RP RO B
  go_region_held3 (fun w' => w'.cell? ⟨g, 0, none⟩ = some (nm) ∧ w'.cell? ⟨g, 1, none⟩ = some (.int .i64 kd) ∧ w'.cell? ⟨g, 2, none⟩ = some (.int .i64 rl) ∧ w'.cell? ⟨g, 3, none⟩ = some (un) ∧ w'.cell? ⟨g, 4, none⟩ = some (lo) ∧ w'.cell? ⟨g, 5, none⟩ = some (hi) ∧ w'.cell? ⟨g, 6, none⟩ = some (st) ∧ w'.cell? ⟨g, 7, none⟩ = some (ss) ∧ w'.cell? ⟨g, 8, none⟩ = some (dk) ∧ w'.cell? ⟨g, 9, none⟩ = some (dn) ∧ w'.cell? ⟨g, 10, none⟩ = some (.int .i64 on) ∧ w'.cell? ⟨g, 11, none⟩ = some (.int .i64 off) ∧ w'.cell? ⟨h, 0, none⟩ = some (.int .i64 k) ∧ w'.cell? ⟨h, 1, none⟩ = some (.int .i64 n) ∧ w'.cell? ⟨h, 2, none⟩ = some (.int .i64 c) ∧ Below w.heap.size w w')
    (first | (with_reducible exact HD.out) | (with_reducible exact HDD.out) | (with_reducible exact tw_keep hb2 (by assumption)) | (with_reducible exact tw_drew (by assumption)) | go_keep)
    (first | (go_at_call 24; refine (HT.out _).mono ?_; rintro e x1 ⟨b, rfl, hq, hb2⟩; have HS1 : Hid (Tw w g h nm kd rl un lo hi st ss dk dn on off k n c x1) := tw_keep hb2 (by assumption)) | (go_at_call 27; refine (HU.out _ _ (by assumption)).mono ?_; rintro e x2 ⟨rfl, hb2⟩; have HS2 : Hid (Tw w g h nm kd rl un lo hi st ss dk dn on off k n c x2) := tw_keep hb2 (by assumption)))
  rename_i hHeld
  clear hHeld
  have hB := tw_bel HS2.out
  go_wp2_with fail
  go_ret
  exact ⟨rfl, hB⟩

set_option maxHeartbeats 8000000 in
set_option maxRecDepth 100000 in
theorem rheld_any (p : Pt) (k n c now : Int) (w : World) : Calls Try.prog 23 #[ptV p, .agg #[.int .i64 k, .int .i64 n, .int .i64 c], .int .i64 now] w fun e w' => e = .returned (.bool (heldP p k n c now)) ∧ Below w.heap.size w w' := by
  obtain ⟨nm, kd, rl, un, lo, hi, st, ss, dk, dn, on, off⟩ := p
  obtain ⟨W, g, h, hW, hg, hh, RP, RO, B, sz⟩ := box2 w #[nm, .int .i64 kd, .int .i64 rl, un, lo, hi, st, ss, dk, dn, .int .i64 on, .int .i64 off] 26 #[.int .i64 k, .int .i64 n, .int .i64 c] 28
  obtain ⟨T, hT⟩ : ∃ T, T = timeP ⟨nm, kd, rl, un, lo, hi, st, ss, dk, dn, on, off⟩ k n := ⟨_, rfl⟩
  have hu := fun w => rtime_any ⟨nm, kd, rl, un, lo, hi, st, ss, dk, dn, on, off⟩ k n c w
  rw [← hT] at hu
  have HT := Lib.hid hu
  clear hu
  unfold heldP
  rw [← hT]
  clear hT
  go_enter Try.func23, Try.ntmps23
  go_wp2_with fail
  rw [← hW]
  try rw [← hh]
  try rw [← hg]
  clear hW hg hh sz
  have p0 := RP.c 0 _ rfl
  have p1 := RP.c 1 _ rfl
  have p2 := RP.c 2 _ rfl
  have p3 := RP.c 3 _ rfl
  have p4 := RP.c 4 _ rfl
  have p5 := RP.c 5 _ rfl
  have p6 := RP.c 6 _ rfl
  have p7 := RP.c 7 _ rfl
  have p8 := RP.c 8 _ rfl
  have p9 := RP.c 9 _ rfl
  have p10 := RP.c 10 _ rfl
  have p11 := RP.c 11 _ rfl
  have o0 := RO.c 0 _ rfl
  have o1 := RO.c 1 _ rfl
  have o2 := RO.c 2 _ rfl
  have HS : Tw w g h nm kd rl un lo hi st ss dk dn on off k n c W := ⟨p0, p1, p2, p3, p4, p5, p6, p7, p8, p9, p10, p11, o0, o1, o2, B⟩
  have HD := Lib.hid HS
  have HDD := Lib.hid (tw_drew HS)
  clear HS RP RO B
  go_region_held3 (fun w' => w'.cell? ⟨g, 0, none⟩ = some (nm) ∧ w'.cell? ⟨g, 1, none⟩ = some (.int .i64 kd) ∧ w'.cell? ⟨g, 2, none⟩ = some (.int .i64 rl) ∧ w'.cell? ⟨g, 3, none⟩ = some (un) ∧ w'.cell? ⟨g, 4, none⟩ = some (lo) ∧ w'.cell? ⟨g, 5, none⟩ = some (hi) ∧ w'.cell? ⟨g, 6, none⟩ = some (st) ∧ w'.cell? ⟨g, 7, none⟩ = some (ss) ∧ w'.cell? ⟨g, 8, none⟩ = some (dk) ∧ w'.cell? ⟨g, 9, none⟩ = some (dn) ∧ w'.cell? ⟨g, 10, none⟩ = some (.int .i64 on) ∧ w'.cell? ⟨g, 11, none⟩ = some (.int .i64 off) ∧ w'.cell? ⟨h, 0, none⟩ = some (.int .i64 k) ∧ w'.cell? ⟨h, 1, none⟩ = some (.int .i64 n) ∧ w'.cell? ⟨h, 2, none⟩ = some (.int .i64 c) ∧ Below w.heap.size w w')
    (first | (with_reducible exact HD.out) | (with_reducible exact HDD.out) | (with_reducible exact tw_keep hb2 (by assumption)) | (with_reducible exact tw_drew (by assumption)) | go_keep)
    (first | (go_at_call 26; refine (HT.out _).mono ?_; rintro e x2 ⟨rfl, hb2⟩; have HS2 : Hid (Tw w g h nm kd rl un lo hi st ss dk dn on off k n c x2) := tw_keep hb2 (by assumption)))
  rename_i hHeld
  clear hHeld
  have hB := tw_bel HS2.out
  go_wp2_with fail
  go_ret
  exact ⟨rfl, hB⟩

set_option maxHeartbeats 8000000 in
set_option maxRecDepth 100000 in
theorem until_any (p : Pt) (k n c : Int) (w : World) : Calls Try.prog 19 #[ptV p, .agg #[.int .i64 k, .int .i64 n, .int .i64 c]] w fun e w' => e = .returned (.int .i64 (IntKind.i64.wrap (c + timeP p k n))) ∧ Below w.heap.size w w' := by
  obtain ⟨nm, kd, rl, un, lo, hi, st, ss, dk, dn, on, off⟩ := p
  obtain ⟨W, g, h, hW, hg, hh, RP, RO, B, sz⟩ := box2 w #[nm, .int .i64 kd, .int .i64 rl, un, lo, hi, st, ss, dk, dn, .int .i64 on, .int .i64 off] 26 #[.int .i64 k, .int .i64 n, .int .i64 c] 28
  have HT := Lib.hid (fun w => times_any ⟨nm, kd, rl, un, lo, hi, st, ss, dk, dn, on, off⟩ w)
  obtain ⟨T, hT⟩ : ∃ T, T = timeP ⟨nm, kd, rl, un, lo, hi, st, ss, dk, dn, on, off⟩ k n := ⟨_, rfl⟩
  have hu := fun b w h => times1_any ⟨nm, kd, rl, un, lo, hi, st, ss, dk, dn, on, off⟩ k n b w h
  rw [← hT] at hu
  have HU := Lib.hid hu
  clear hu
  
  rw [← hT]
  clear hT
  go_enter Try.func19, Try.ntmps19
  go_wp2_with fail
  rw [← hW]
  try rw [← hh]
  try rw [← hg]
  clear hW hg hh sz
  have p0 := RP.c 0 _ rfl
  have p1 := RP.c 1 _ rfl
  have p2 := RP.c 2 _ rfl
  have p3 := RP.c 3 _ rfl
  have p4 := RP.c 4 _ rfl
  have p5 := RP.c 5 _ rfl
  have p6 := RP.c 6 _ rfl
  have p7 := RP.c 7 _ rfl
  have p8 := RP.c 8 _ rfl
  have p9 := RP.c 9 _ rfl
  have p10 := RP.c 10 _ rfl
  have p11 := RP.c 11 _ rfl
  have o0 := RO.c 0 _ rfl
  have o1 := RO.c 1 _ rfl
  have o2 := RO.c 2 _ rfl
  have HS : Tw w g h nm kd rl un lo hi st ss dk dn on off k n c W := ⟨p0, p1, p2, p3, p4, p5, p6, p7, p8, p9, p10, p11, o0, o1, o2, B⟩
  have HD := Lib.hid HS
  have HDD := Lib.hid (tw_drew HS)
  clear HS RP RO B
  go_region_held3 (fun w' => w'.cell? ⟨g, 0, none⟩ = some (nm) ∧ w'.cell? ⟨g, 1, none⟩ = some (.int .i64 kd) ∧ w'.cell? ⟨g, 2, none⟩ = some (.int .i64 rl) ∧ w'.cell? ⟨g, 3, none⟩ = some (un) ∧ w'.cell? ⟨g, 4, none⟩ = some (lo) ∧ w'.cell? ⟨g, 5, none⟩ = some (hi) ∧ w'.cell? ⟨g, 6, none⟩ = some (st) ∧ w'.cell? ⟨g, 7, none⟩ = some (ss) ∧ w'.cell? ⟨g, 8, none⟩ = some (dk) ∧ w'.cell? ⟨g, 9, none⟩ = some (dn) ∧ w'.cell? ⟨g, 10, none⟩ = some (.int .i64 on) ∧ w'.cell? ⟨g, 11, none⟩ = some (.int .i64 off) ∧ w'.cell? ⟨h, 0, none⟩ = some (.int .i64 k) ∧ w'.cell? ⟨h, 1, none⟩ = some (.int .i64 n) ∧ w'.cell? ⟨h, 2, none⟩ = some (.int .i64 c) ∧ Below w.heap.size w w')
    (first | (with_reducible exact HD.out) | (with_reducible exact HDD.out) | (with_reducible exact tw_keep hb2 (by assumption)) | (with_reducible exact tw_drew (by assumption)) | go_keep)
    (first | (go_at_call 24; refine (HT.out _).mono ?_; rintro e x1 ⟨b, rfl, hq, hb2⟩; have HS1 : Hid (Tw w g h nm kd rl un lo hi st ss dk dn on off k n c x1) := tw_keep hb2 (by assumption)) | (go_at_call 27; refine (HU.out _ _ (by assumption)).mono ?_; rintro e x2 ⟨rfl, hb2⟩; have HS2 : Hid (Tw w g h nm kd rl un lo hi st ss dk dn on off k n c x2) := tw_keep hb2 (by assumption)))
  rename_i hHeld
  clear hHeld
  have hB := tw_bel HS2.out
  go_wp2_with fail
  go_ret
  exact ⟨rfl, hB⟩
end Go.Proofs.Ytlmcdnfihgimjaa
