/- Contracts of settingsOf, stateOf, isController, controllerScan at the chapter's example. -/
import Derived.Test.YtepmeacdacnhmaaPn
namespace Go.Proofs.Ytepmeacdacnhmaa
open Go.RowKit

set_option maxHeartbeats 2000000 in
theorem settings_ex (b : Nat) (w : World) (hp : RowAt w b [.int .i64 2000, .int .i64 60, .int .i64 0, .int .i64 100000, .int .i64 0]) : Calls Try.prog 44 #[.slice (some ⟨b, 0, none⟩) 5 5] w fun e w' => e = .returned (.agg #[.int .i64 2000, .int .i64 60, .int .i64 0, .int .i64 100000, .bool false]) ∧ Below w.heap.size w w' := by
  obtain ⟨W, r, hW, hr, RR, B, sz⟩ := box1 w #[.int .i64 0, .int .i64 0, .int .i64 0, .int .i64 0, .bool false] 26
  have hwr : w.heap.size ≤ r := by omega
  have hbr : r ≠ b := by have := hp.lt; omega
  have HP := Lib.hid (hp.keep B)
  have HR := Lib.hid RR
  have HB := Lib.hid B
  have HWR := Lib.hid hwr
  go_enter Try.func44, Try.ntmps44
  go_upto_region 1 with fail
  rw [← hW]
  try rw [← hr]
  clear hW hr sz RR B hwr hp
  have p_0 := HP.out.c 0 _ rfl
  have p_1 := HP.out.c 1 _ rfl
  have p_2 := HP.out.c 2 _ rfl
  have p_3 := HP.out.c 3 _ rfl
  have p_4 := HP.out.c 4 _ rfl
  have r_0 := HR.out.c 0 _ rfl
  have r_1 := HR.out.c 1 _ rfl
  have r_2 := HR.out.c 2 _ rfl
  have r_3 := HR.out.c 3 _ rfl
  have r_4 := HR.out.c 4 _ rfl
  have r_z := HR.out.fz
  go_region_held3 (fun w' => w'.cell? ⟨b, 0, none⟩ = some (.int .i64 2000) ∧ w'.cell? ⟨b, 1, none⟩ = some (.int .i64 60) ∧ w'.cell? ⟨b, 2, none⟩ = some (.int .i64 0) ∧ w'.cell? ⟨b, 3, none⟩ = some (.int .i64 100000) ∧ w'.cell? ⟨b, 4, none⟩ = some (.int .i64 0)) (first | go_keep) ((fail))
  all_goals
    rename_i hHeld
    clear hHeld
    go_wp2_with fail
    have hs := HR.out.setRow [.int .i64 2000, .int .i64 60, .int .i64 0, .int .i64 100000, .bool false] rfl
    have hB := (set_below HB.out HWR.out [.int .i64 2000, .int .i64 60, .int .i64 0, .int .i64 100000, .bool false]).drew
    have y0 : (((((W.setCell ⟨r, 0, none⟩ (.int .i64 2000)).setCell ⟨r, 1, none⟩ (.int .i64 60)).setCell ⟨r, 2, none⟩ (.int .i64 0)).setCell ⟨r, 3, none⟩ (.int .i64 100000)).setCell ⟨r, 4, none⟩ (.bool false)).cell? ⟨r, 0, none⟩ = some (.int .i64 2000) := hs.c 0 _ rfl
    have y1 : (((((W.setCell ⟨r, 0, none⟩ (.int .i64 2000)).setCell ⟨r, 1, none⟩ (.int .i64 60)).setCell ⟨r, 2, none⟩ (.int .i64 0)).setCell ⟨r, 3, none⟩ (.int .i64 100000)).setCell ⟨r, 4, none⟩ (.bool false)).cell? ⟨r, 1, none⟩ = some (.int .i64 60) := hs.c 1 _ rfl
    have y2 : (((((W.setCell ⟨r, 0, none⟩ (.int .i64 2000)).setCell ⟨r, 1, none⟩ (.int .i64 60)).setCell ⟨r, 2, none⟩ (.int .i64 0)).setCell ⟨r, 3, none⟩ (.int .i64 100000)).setCell ⟨r, 4, none⟩ (.bool false)).cell? ⟨r, 2, none⟩ = some (.int .i64 0) := hs.c 2 _ rfl
    have y3 : (((((W.setCell ⟨r, 0, none⟩ (.int .i64 2000)).setCell ⟨r, 1, none⟩ (.int .i64 60)).setCell ⟨r, 2, none⟩ (.int .i64 0)).setCell ⟨r, 3, none⟩ (.int .i64 100000)).setCell ⟨r, 4, none⟩ (.bool false)).cell? ⟨r, 3, none⟩ = some (.int .i64 100000) := hs.c 3 _ rfl
    have y4 : (((((W.setCell ⟨r, 0, none⟩ (.int .i64 2000)).setCell ⟨r, 1, none⟩ (.int .i64 60)).setCell ⟨r, 2, none⟩ (.int .i64 0)).setCell ⟨r, 3, none⟩ (.int .i64 100000)).setCell ⟨r, 4, none⟩ (.bool false)).cell? ⟨r, 4, none⟩ = some (.bool false) := hs.c 4 _ rfl
    (try simp only [Exit.inBlock, Exit.then])
    refine bodyPost_ret (by simp [results, Try.results44, go_sem, y0, y1, y2, y3, y4]; try rfl) rfl ?_
    exact ⟨rfl, hB⟩
set_option maxHeartbeats 2000000 in
theorem state_ex (b : Nat) (w : World) (hp : RowAt w b [.int .i64 0, .int .i64 0, .int .i64 0]) : Calls Try.prog 45 #[.slice (some ⟨b, 0, none⟩) 3 3] w fun e w' => e = .returned (.agg #[.bool false, .int .i64 0, .int .i64 0]) ∧ Below w.heap.size w w' := by
  obtain ⟨W, r, hW, hr, RR, B, sz⟩ := box1 w #[.bool false, .int .i64 0, .int .i64 0] 28
  have hwr : w.heap.size ≤ r := by omega
  have hbr : r ≠ b := by have := hp.lt; omega
  have HP := Lib.hid (hp.keep B)
  have HR := Lib.hid RR
  have HB := Lib.hid B
  have HWR := Lib.hid hwr
  go_enter Try.func45, Try.ntmps45
  go_upto_region 1 with fail
  rw [← hW]
  try rw [← hr]
  clear hW hr sz RR B hwr hp
  have p_0 := HP.out.c 0 _ rfl
  have p_1 := HP.out.c 1 _ rfl
  have p_2 := HP.out.c 2 _ rfl
  have r_0 := HR.out.c 0 _ rfl
  have r_1 := HR.out.c 1 _ rfl
  have r_2 := HR.out.c 2 _ rfl
  have r_z := HR.out.fz
  go_region_held3 (fun w' => w'.cell? ⟨b, 0, none⟩ = some (.int .i64 0) ∧ w'.cell? ⟨b, 1, none⟩ = some (.int .i64 0) ∧ w'.cell? ⟨b, 2, none⟩ = some (.int .i64 0)) (first | go_keep) ((fail))
  all_goals
    rename_i hHeld
    clear hHeld
    go_wp2_with fail
    have hs := HR.out.setRow [.bool false, .int .i64 0, .int .i64 0] rfl
    have hB := (set_below HB.out HWR.out [.bool false, .int .i64 0, .int .i64 0]).drew
    have y0 : (((W.setCell ⟨r, 0, none⟩ (.bool false)).setCell ⟨r, 1, none⟩ (.int .i64 0)).setCell ⟨r, 2, none⟩ (.int .i64 0)).cell? ⟨r, 0, none⟩ = some (.bool false) := hs.c 0 _ rfl
    have y1 : (((W.setCell ⟨r, 0, none⟩ (.bool false)).setCell ⟨r, 1, none⟩ (.int .i64 0)).setCell ⟨r, 2, none⟩ (.int .i64 0)).cell? ⟨r, 1, none⟩ = some (.int .i64 0) := hs.c 1 _ rfl
    have y2 : (((W.setCell ⟨r, 0, none⟩ (.bool false)).setCell ⟨r, 1, none⟩ (.int .i64 0)).setCell ⟨r, 2, none⟩ (.int .i64 0)).cell? ⟨r, 2, none⟩ = some (.int .i64 0) := hs.c 2 _ rfl
    (try simp only [Exit.inBlock, Exit.then])
    refine bodyPost_ret (by simp [results, Try.results45, go_sem, y0, y1, y2]; try rfl) rfl ?_
    exact ⟨rfl, hB⟩
theorem setB_ex : setB 2000 60 0 100000 = true := by decide
theorem posB_ex : posB 0 0 = true := by decide
theorem timeB_ex : timeB 30 = true := by decide
set_option maxHeartbeats 2000000 in
theorem isController_ex (pb sb : Nat) (w : World) (hp : RowAt w pb [.int .i64 2000, .int .i64 60, .int .i64 0, .int .i64 100000, .int .i64 0]) (hs : RowAt w sb [.int .i64 0, .int .i64 0, .int .i64 0]) : Calls Try.prog 35 #[.slice (some ⟨pb, 0, none⟩) 5 5, .slice (some ⟨sb, 0, none⟩) 3 3] w fun e w' => e = .returned (.bool true) ∧ Below w.heap.size w w' := by
  have KC := Lib.hid (fun w => show Calls Try.prog 19 #[.agg #[.int .i64 2000, .int .i64 60, .int .i64 0, .int .i64 100000, .bool false]] w fun e w' => e = .returned (.int .i64 0) ∧ Below w.heap.size w w' by have h := check_any 2000 60 0 100000 false w; rw [if_pos setB_ex] at h; exact h)
  have KX := Lib.hid (fun w => show Calls Try.prog 20 #[.agg #[.bool false, .int .i64 0, .int .i64 0]] w fun e w' => e = .returned (.bool true) ∧ Below w.heap.size w w' by have h := possible_any false 0 0 w; rw [posB_ex] at h; exact h)
  have HP := Lib.hid hp
  have HQ := Lib.hid hs
  have HB := Lib.hid (Below.refl w.heap.size w)
  clear hp hs
  have p_0 := HP.out.c 0 _ rfl
  have p_1 := HP.out.c 1 _ rfl
  have p_2 := HP.out.c 2 _ rfl
  have p_3 := HP.out.c 3 _ rfl
  have p_4 := HP.out.c 4 _ rfl
  have q_0 := HQ.out.c 0 _ rfl
  have q_1 := HQ.out.c 1 _ rfl
  have q_2 := HQ.out.c 2 _ rfl
  go_enter Try.func35, Try.ntmps35
  go_wp2_with fail
  refine (isBit0 _).mono ?_
  rintro e w' ⟨rfl, rfl⟩
  go_wp2_with fail
  refine (settings_ex pb _ HP.out).mono ?_
  rintro e w1 ⟨rfl, hb⟩
  clear p_0 p_1 p_2 p_3 p_4
  clear q_0 q_1 q_2
  have HP1 := Lib.hid (HP.out.keep hb)
  have HQ1 := Lib.hid (HQ.out.keep hb)
  have HB1 := Lib.hid (HB.out.trans (hb.mono HB.out.size))
  clear hb HP HQ HB
  go_wp2_with fail
  refine (KC.out _).mono ?_
  rintro e w2 ⟨rfl, hb⟩
  have HP2 := Lib.hid (HP1.out.keep hb)
  have HQ2 := Lib.hid (HQ1.out.keep hb)
  have HB2 := Lib.hid (HB1.out.trans (hb.mono HB1.out.size))
  clear hb HP1 HQ1 HB1
  have q_0 := HQ2.out.c 0 _ rfl
  have q_1 := HQ2.out.c 1 _ rfl
  have q_2 := HQ2.out.c 2 _ rfl
  go_wp2_with fail
  refine (isBit0 _).mono ?_
  rintro e w' ⟨rfl, rfl⟩
  go_wp2_with fail
  refine (state_ex sb _ HQ2.out).mono ?_
  rintro e w3 ⟨rfl, hb⟩
  clear q_0 q_1 q_2
  have HP3 := Lib.hid (HP2.out.keep hb)
  have HQ3 := Lib.hid (HQ2.out.keep hb)
  have HB3 := Lib.hid (HB2.out.trans (hb.mono HB2.out.size))
  clear hb HP2 HQ2 HB2
  go_wp2_with fail
  refine (KX.out _).mono ?_
  rintro e w4 ⟨rfl, hb⟩
  have HP4 := Lib.hid (HP3.out.keep hb)
  have HQ4 := Lib.hid (HQ3.out.keep hb)
  have HB4 := Lib.hid (HB3.out.trans (hb.mono HB3.out.size))
  clear hb HP3 HQ3 HB3
  go_wp2_with fail
  go_ret
  exact ⟨rfl, HB4.out⟩
theorem ctl_ex : ctlV 2000 60 0 100000 false false 0 0 21000 20000 30 = .tuple #[.agg #[.bool true, .int .i64 (-1000), .int .i64 0], .int .i64 1000, .int .i64 0] := by kernel_rfl
theorem control_ex (w : World) : Calls Try.prog 9 #[.agg #[.int .i64 2000, .int .i64 60, .int .i64 0, .int .i64 100000, .bool false], .agg #[.bool false, .int .i64 0, .int .i64 0], .int .i64 21000, .int .i64 20000, .int .i64 30] w fun e w' => e = .returned (.tuple #[.agg #[.bool true, .int .i64 (-1000), .int .i64 0], .int .i64 1000, .int .i64 0]) ∧ Below w.heap.size w w' := by
  have h := control_yes 2000 60 0 100000 false false 0 0 21000 20000 30 w setB_ex posB_ex timeB_ex (by decide)
  rw [ctl_ex] at h
  exact h
set_option maxHeartbeats 4000000 in
set_option maxRecDepth 100000 in
theorem controllerScan_ex (pb sb ib io c : Nat) (w : World) (hp : RowAt w pb [.int .i64 2000, .int .i64 60, .int .i64 0, .int .i64 100000, .int .i64 0]) (hs : RowAt w sb [.int .i64 0, .int .i64 0, .int .i64 0]) (hi : InS w (some ⟨ib, io, none⟩) 3 1 [.int .i64 21000, .int .i64 20000, .int .i64 1]) :
    Calls Try.prog 36 #[.slice (some ⟨pb, 0, none⟩) 5 5, .slice (some ⟨sb, 0, none⟩) 3 3, .slice (some ⟨ib, io, none⟩) 3 c, .int .i64 30] w fun e w' => ∃ nb, e = .returned (.tuple #[.slice (some ⟨nb, 0, none⟩) 3 3, .int .i64 1000]) ∧ w.heap.size ≤ nb ∧ RowAt w' nb [.int .i64 1, .int .i64 (-1000), .int .i64 0] ∧ Below w.heap.size w w' := by
  have HP := Lib.hid hp
  have HQ := Lib.hid hs
  have HI := Lib.hid hi
  have HB := Lib.hid (Below.refl w.heap.size w)
  clear hp hs hi
  go_enter Try.func36, Try.ntmps36
  go_wp2_with fail
  refine (settings_ex pb _ HP.out).mono ?_
  rintro e w1 ⟨rfl, hb⟩
  obtain ⟨W1, m, hW1, hm, RM, BM, szm⟩ := box1 w1 #[.int .i64 2000, .int .i64 60, .int .i64 0, .int .i64 100000, .bool false] 26
  have hbb := hb.trans (BM.mono hb.size)
  have HM1 := Lib.hid RM
  have HP1 := Lib.hid (HP.out.keep hbb)
  have HQ1 := Lib.hid (HQ.out.keep hbb)
  have HI1 := Lib.hid (HI.out.keep hbb)
  have HB1 := Lib.hid (HB.out.trans (hbb.mono HB.out.size))
  clear hbb HP HQ HI HB
  go_upto_region 2 with fail
  rw [← hW1]
  try rw [← hm]
  clear hW1 hm RM BM szm hb
  have hc := HI1.out
  obtain ⟨_, _, hc | ⟨b', o', hx, hlt, hc⟩⟩ := hc
  · exact absurd hc (by decide)
  · injection hx with hx
    injection hx with hx hy
    subst hx
    subst hy
    have c0 := hc 0 _ rfl
    have c1 := hc 1 _ rfl
    have c2 := hc 2 _ rfl
    rw [Nat.add_zero] at c0
    clear hc
    go_quiet (fail)
    (try simp only [Exit.then])
    obtain ⟨W2, hW2⟩ : ∃ x, x = W1.drewN nq := ⟨_, rfl⟩
    have hbb : Below W1.heap.size W1 W2 := by rw [hW2]; exact below_drewN _ _ _
    rw [← hW2]
    clear c0 c1 c2 hlt hW2
    have HP2 := Lib.hid (HP1.out.keep hbb)
    have HQ2 := Lib.hid (HQ1.out.keep hbb)
    have HI2 := Lib.hid (HI1.out.keep hbb)
    have HM2 := Lib.hid (HM1.out.keep hbb)
    have HB2 := Lib.hid (HB1.out.trans (hbb.mono HB1.out.size))
    clear hbb HP1 HQ1 HI1 HM1 HB1
    have m_0 := HM2.out.c 0 _ rfl
    have m_1 := HM2.out.c 1 _ rfl
    have m_2 := HM2.out.c 2 _ rfl
    have m_3 := HM2.out.c 3 _ rfl
    have m_4 := HM2.out.c 4 _ rfl
    have HC := Lib.hid (show T5 W2 m 2000 60 0 100000 false W2 from ⟨m_0, m_1, m_2, m_3, m_4, Below.refl _ _⟩)
    have HCD := Lib.hid (t5_drew HC.out HC.out)
    go_upto_region 5 with fail
    go_cut [14, 15] from 34 to 42 (fun q o wx => ∃ NB : Nat, q = .pointer (some ⟨NB, 0, none⟩) ∧ o = .int .i64 1000 ∧ Hid (RowAt wx NB [.bool true, .int .i64 (-1000), .int .i64 0] ∧ Below W2.heap.size W2 wx))
    case first =>
      go_region_held3 (fun w' => w'.cell? ⟨m, 0, none⟩ = some (.int .i64 2000) ∧ w'.cell? ⟨m, 1, none⟩ = some (.int .i64 60) ∧ w'.cell? ⟨m, 2, none⟩ = some (.int .i64 0) ∧ w'.cell? ⟨m, 3, none⟩ = some (.int .i64 100000) ∧ w'.cell? ⟨m, 4, none⟩ = some (.bool false) ∧ Below W2.heap.size W2 w')
        (first | (with_reducible exact HC.out) | (with_reducible exact HCD.out) | (with_reducible exact HS1.out) | (with_reducible exact HS2.out) | (with_reducible exact t5_alloc HC.out _ HC.out) | (with_reducible exact t5_drew HC.out (t5_alloc HC.out _ HC.out)) | (with_reducible exact t5_alloc HC.out _ HS1.out) | (with_reducible exact t5_drew HC.out HS1.out) | (with_reducible exact t5_drew HC.out (t5_alloc HC.out _ HS1.out)) | (with_reducible exact t5_alloc HC.out _ HS2.out) | (with_reducible exact t5_drew HC.out HS2.out) | (with_reducible exact t5_drew HC.out (t5_alloc HC.out _ HS2.out)) | (exact t5_of HC.out (set_below (t5_bel HS2.out) (Nat.le_refl _) [.bool true, .int .i64 (-1000), .int .i64 0])) | (exact t5_of HC.out (set_below (t5_bel HS2.out) (t5_bel HS1.out).size [.bool true, .int .i64 (-1000), .int .i64 0])) | (go_keep))
        (first | (go_at_call 45; refine (state_ex sb _ (HQ2.out.keep (t5_bel (by first | assumption | exact HC.out | exact HCD.out | exact t5_alloc HC.out _ HC.out | exact t5_drew HC.out (t5_alloc HC.out _ HC.out) | exact t5_alloc HC.out _ (by assumption) | exact t5_drew HC.out (by assumption))))).mono ?_; rintro e x1 ⟨rfl, hb2⟩; have HS1 : Hid (T5 W2 m 2000 60 0 100000 false x1) := t5_keep HC.out hb2 (by first | assumption | exact HC.out | exact HCD.out | exact t5_alloc HC.out _ HC.out | exact t5_drew HC.out (t5_alloc HC.out _ HC.out) | exact t5_alloc HC.out _ (by assumption) | exact t5_drew HC.out (by assumption)); (first | (with_reducible have nn := rf_kept (A := #[.bool false, .int .i64 0, .int .i64 0]) hb2) | (with_reducible have nn := rf_kept_drew (A := #[.bool false, .int .i64 0, .int .i64 0]) hb2) | (have nn := nn.keep hb2) | (have nn := row_keep_drew nn hb2) | skip); (try rw [World.size_alloc] at nn); (try (have n0 := nn.c 0 _ rfl; have n1 := nn.c 1 _ rfl; have n2 := nn.c 2 _ rfl; have nz := nn.fz))) | (go_at_call 9; refine (control_ex _).mono ?_; rintro e x2 ⟨rfl, hb2⟩; have HS2 : Hid (T5 W2 m 2000 60 0 100000 false x2) := t5_keep HC.out hb2 (by first | assumption | exact HC.out | exact HCD.out | exact t5_alloc HC.out _ HC.out | exact t5_drew HC.out (t5_alloc HC.out _ HC.out) | exact t5_alloc HC.out _ (by assumption) | exact t5_drew HC.out (by assumption)); (first | (with_reducible have nn := rf_kept (A := #[.bool false, .int .i64 0, .int .i64 0]) hb2) | (with_reducible have nn := rf_kept_drew (A := #[.bool false, .int .i64 0, .int .i64 0]) hb2) | (have nn := nn.keep hb2) | (have nn := row_keep_drew nn hb2) | skip); (try rw [World.size_alloc] at nn); (try (have n0 := nn.c 0 _ rfl; have n1 := nn.c 1 _ rfl; have n2 := nn.c 2 _ rfl; have nz := nn.fz))) | (fail))
      all_goals
        rename_i hHeld
        clear hHeld
        go_wp2_with fail
        go_meet
      all_goals first | exact ⟨_, rfl, rfl, Lib.hid ⟨row_fresh _ _ _, (t5_bel HS2.out).alloc (t5_bel HS2.out).size _⟩⟩ | exact ⟨_, rfl, rfl, Lib.hid ⟨nn.setRow [.bool true, .int .i64 (-1000), .int .i64 0] rfl, set_below (t5_bel HS2.out) (Nat.le_refl _) [.bool true, .int .i64 (-1000), .int .i64 0]⟩⟩ | exact ⟨_, rfl, rfl, Lib.hid ⟨nn.setRow [.bool true, .int .i64 (-1000), .int .i64 0] rfl, set_below (t5_bel HS2.out) (t5_bel HS1.out).size [.bool true, .int .i64 (-1000), .int .i64 0]⟩⟩
    case rest =>
      obtain ⟨k, rfl, rfl, hcc⟩ := hcut
      have HK3 := Lib.hid hcc.out.1
      have hb := hcc.out.2
      clear HC HCD m_0 m_1 m_2 m_3 m_4 hcc
      have HP3 := Lib.hid (HP2.out.keep hb)
      have HQ3 := Lib.hid (HQ2.out.keep hb)
      have HB3 := Lib.hid (HB2.out.trans (hb.mono HB2.out.size))
      clear hb HP2 HQ2 HB2
      have k_0 := HK3.out.c 0 _ rfl
      have k_1 := HK3.out.c 1 _ rfl
      have k_2 := HK3.out.c 2 _ rfl
      go_wp2_with fail
      go_ret2
      exact ⟨_, rfl, HB3.out.size, row_fresh wc #[.int .i64 1, .int .i64 (-1000), .int .i64 0] _, HB3.out.alloc HB3.out.size _⟩
end Go.Proofs.Ytepmeacdacnhmaa
