/- The law MinimumReplays. -/
import Derived.Test.YtlmcdnfihgimjaaI
namespace Go.Proofs.Ytlmcdnfihgimjaa
open Go.RowKit Go.Deep

abbrev GS (wb : World) (g h : Nat) (nm : Value) (kd rl : Int) (un lo hi st ss dk dn : Value) (on off k n c : Int) (w' : World) : Prop := w'.cell? ⟨g, 0, none⟩ = some (nm) ∧ w'.cell? ⟨g, 1, none⟩ = some (.int .i64 kd) ∧ w'.cell? ⟨g, 2, none⟩ = some (.int .i64 rl) ∧ w'.cell? ⟨g, 3, none⟩ = some (un) ∧ w'.cell? ⟨g, 4, none⟩ = some (lo) ∧ w'.cell? ⟨g, 5, none⟩ = some (hi) ∧ w'.cell? ⟨g, 6, none⟩ = some (st) ∧ w'.cell? ⟨g, 7, none⟩ = some (ss) ∧ w'.cell? ⟨g, 8, none⟩ = some (dk) ∧ w'.cell? ⟨g, 9, none⟩ = some (dn) ∧ w'.cell? ⟨g, 10, none⟩ = some (.int .i64 on) ∧ w'.cell? ⟨g, 11, none⟩ = some (.int .i64 off) ∧ w'.cell? ⟨h, 0, none⟩ = some (.int .i64 k) ∧ w'.cell? ⟨h, 1, none⟩ = some (.int .i64 n) ∧ w'.cell? ⟨h, 2, none⟩ = some (.int .i64 c) ∧ Below wb.heap.size wb w'
theorem gs_of {wb w' : World} {g h : Nat} {nm : Value} {kd rl : Int} {un lo hi st ss dk dn : Value} {on off : Int} {k n c : Int} (s : GS wb g h nm kd rl un lo hi st ss dk dn on off k n c wb) (hb : Below wb.heap.size wb w') : GS wb g h nm kd rl un lo hi st ss dk dn on off k n c w' := by
  obtain ⟨s0, s1, s2, s3, s4, s5, s6, s7, s8, s9, s10, s11, s12, s13, s14, _⟩ := s
  have hg : g < wb.heap.size := World.block_lt_of_cell? _ _ s0
  have hh : h < wb.heap.size := World.block_lt_of_cell? _ _ s12
  exact ⟨(hb.cell (p := ⟨g, 0, none⟩) hg).trans s0, (hb.cell (p := ⟨g, 1, none⟩) hg).trans s1, (hb.cell (p := ⟨g, 2, none⟩) hg).trans s2, (hb.cell (p := ⟨g, 3, none⟩) hg).trans s3, (hb.cell (p := ⟨g, 4, none⟩) hg).trans s4, (hb.cell (p := ⟨g, 5, none⟩) hg).trans s5, (hb.cell (p := ⟨g, 6, none⟩) hg).trans s6, (hb.cell (p := ⟨g, 7, none⟩) hg).trans s7, (hb.cell (p := ⟨g, 8, none⟩) hg).trans s8, (hb.cell (p := ⟨g, 9, none⟩) hg).trans s9, (hb.cell (p := ⟨g, 10, none⟩) hg).trans s10, (hb.cell (p := ⟨g, 11, none⟩) hg).trans s11, (hb.cell (p := ⟨h, 0, none⟩) hh).trans s12, (hb.cell (p := ⟨h, 1, none⟩) hh).trans s13, (hb.cell (p := ⟨h, 2, none⟩) hh).trans s14, hb⟩
theorem gs_bel {wb w' : World} {g h : Nat} {nm : Value} {kd rl : Int} {un lo hi st ss dk dn : Value} {on off : Int} {k n c : Int} (s : GS wb g h nm kd rl un lo hi st ss dk dn on off k n c w') : Below wb.heap.size wb w' := s.2.2.2.2.2.2.2.2.2.2.2.2.2.2.2
theorem gs_keep {wb w1 w2 : World} {g h : Nat} {nm : Value} {kd rl : Int} {un lo hi st ss dk dn : Value} {on off : Int} {k n c : Int} (c0 : GS wb g h nm kd rl un lo hi st ss dk dn on off k n c wb) (hb : Below w1.heap.size w1 w2) (s : GS wb g h nm kd rl un lo hi st ss dk dn on off k n c w1) : GS wb g h nm kd rl un lo hi st ss dk dn on off k n c w2 := gs_of c0 ((gs_bel s).trans (hb.mono (gs_bel s).size))
theorem gs_alloc {wb w1 : World} {g h : Nat} {nm : Value} {kd rl : Int} {un lo hi st ss dk dn : Value} {on off : Int} {k n c : Int} (c0 : GS wb g h nm kd rl un lo hi st ss dk dn on off k n c wb) (x : Obj) (s : GS wb g h nm kd rl un lo hi st ss dk dn on off k n c w1) : GS wb g h nm kd rl un lo hi st ss dk dn on off k n c (w1.alloc x) := gs_of c0 ((gs_bel s).alloc (gs_bel s).size x)
theorem gs_drew {wb w1 : World} {g h : Nat} {nm : Value} {kd rl : Int} {un lo hi st ss dk dn : Value} {on off : Int} {k n c : Int} (c0 : GS wb g h nm kd rl un lo hi st ss dk dn on off k n c wb) (s : GS wb g h nm kd rl un lo hi st ss dk dn on off k n c w1) : GS wb g h nm kd rl un lo hi st ss dk dn on off k n c w1.drew := gs_of c0 (gs_bel s).drew
theorem fits_60 {p : Pt} {c : Int} {qs : List AskD} (h : true = fitsB p c qs) : qs.length ≤ 60 := by
  have h := h.symm
  unfold fitsB at h
  simp only [Bool.and_eq_true, decide_eq_true_eq] at h
  exact h.1.2

set_option maxHeartbeats 8000000 in
set_option maxRecDepth 100000 in
theorem replays_law (p : Pt) (k n c : Int) (a : Option Addr) (cap : Nat) (qs : List AskD) (w : World) (hin : InS w a qs.length 4 (flat askL qs)) : Calls Try.prog 4 #[ptV p, .agg #[.int .i64 k, .int .i64 n, .int .i64 c], .slice a qs.length cap] w fun e w' => e = .returned (.bool true) ∧ Below w.heap.size w w' := by
  obtain ⟨nm, kd, rl, un, lo, hi, st, ss, dk, dn, on, off⟩ := p
  obtain ⟨L, hL⟩ : ∃ L, L = replayL ⟨nm, kd, rl, un, lo, hi, st, ss, dk, dn, on, off⟩ ⟨k, n, c⟩ qs := ⟨_, rfl⟩
  obtain ⟨E, hE⟩ : ∃ E, E = firstE ⟨nm, kd, rl, un, lo, hi, st, ss, dk, dn, on, off⟩ ⟨k, n, c⟩ qs := ⟨_, rfl⟩
  have hr := fun a cap w h6 hin => replay_any ⟨nm, kd, rl, un, lo, hi, st, ss, dk, dn, on, off⟩ ⟨k, n, c⟩ a cap qs w h6 hin
  have hs := fun a cap w h6 hin => rreplay_any ⟨nm, kd, rl, un, lo, hi, st, ss, dk, dn, on, off⟩ ⟨k, n, c⟩ a cap qs w h6 hin
  rw [← hL, ← hE] at hr hs
  have HR := Lib.hid hr
  have HSP := Lib.hid hs
  clear hL hE hr hs
  obtain ⟨W, g, h, hW, hg, hh, RP, RO, B, sz⟩ := box2 w #[nm, .int .i64 kd, .int .i64 rl, un, lo, hi, st, ss, dk, dn, .int .i64 on, .int .i64 off] 26 #[.int .i64 k, .int .i64 n, .int .i64 c] 28
  have HAW := Lib.hid awake_yes
  have HI := Lib.hid hin
  obtain ⟨Z, hZ⟩ : ∃ Z, Z = fitsB ⟨nm, kd, rl, un, lo, hi, st, ss, dk, dn, on, off⟩ c qs := ⟨_, rfl⟩
  have hft := fun w h => fits_any ⟨nm, kd, rl, un, lo, hi, st, ss, dk, dn, on, off⟩ k n c a cap qs w h
  rw [← hZ] at hft
  have HFT := Lib.hid hft
  have HZ := Lib.hid hZ
  clear hft hZ hin
  go_enter Try.func4, Try.ntmps4
  go_wp2_with fail
  rw [← hW]
  try rw [← hh]
  try rw [← hg]
  have HP0 := Lib.hid RP
  have HO0 := Lib.hid RO
  have HB0 := Lib.hid B
  clear hW hg hh sz B RP RO
  refine (HAW.out _).mono ?_
  rintro e w1 ⟨rfl, hb⟩
  have HP1 := Lib.hid (HP0.out.keep hb)
  have HO1 := Lib.hid (HO0.out.keep hb)
  have HB1 := Lib.hid (HB0.out.trans (hb.mono HB0.out.size))
  clear hb HP0 HO0 HB0 HAW
  have p_0 := HP1.out.c 0 _ rfl
  have p_1 := HP1.out.c 1 _ rfl
  have p_2 := HP1.out.c 2 _ rfl
  have p_3 := HP1.out.c 3 _ rfl
  have p_4 := HP1.out.c 4 _ rfl
  have p_5 := HP1.out.c 5 _ rfl
  have p_6 := HP1.out.c 6 _ rfl
  have p_7 := HP1.out.c 7 _ rfl
  have p_8 := HP1.out.c 8 _ rfl
  have p_9 := HP1.out.c 9 _ rfl
  have p_10 := HP1.out.c 10 _ rfl
  have p_11 := HP1.out.c 11 _ rfl
  have p_z := HP1.out.fz
  have o_0 := HO1.out.c 0 _ rfl
  have o_1 := HO1.out.c 1 _ rfl
  have o_2 := HO1.out.c 2 _ rfl
  have o_z := HO1.out.fz
  go_wp2_with fail
  refine (HFT.out _ (HI.out.keep HB1.out)).mono ?_
  rintro e w2 ⟨rfl, hb⟩
  clear p_0 p_1 p_2 p_3 p_4 p_5 p_6 p_7 p_8 p_9 p_10 p_11 p_z
  clear o_0 o_1 o_2 o_z
  have HP2 := Lib.hid (HP1.out.keep hb)
  have HO2 := Lib.hid (HO1.out.keep hb)
  have HB2 := Lib.hid (HB1.out.trans (hb.mono HB1.out.size))
  clear hb HP1 HO1 HB1
  clear HFT
  cases Z
  · have p_0 := HP2.out.c 0 _ rfl
    have p_1 := HP2.out.c 1 _ rfl
    have p_2 := HP2.out.c 2 _ rfl
    have p_3 := HP2.out.c 3 _ rfl
    have p_4 := HP2.out.c 4 _ rfl
    have p_5 := HP2.out.c 5 _ rfl
    have p_6 := HP2.out.c 6 _ rfl
    have p_7 := HP2.out.c 7 _ rfl
    have p_8 := HP2.out.c 8 _ rfl
    have p_9 := HP2.out.c 9 _ rfl
    have p_10 := HP2.out.c 10 _ rfl
    have p_11 := HP2.out.c 11 _ rfl
    have p_z := HP2.out.fz
    have o_0 := HO2.out.c 0 _ rfl
    have o_1 := HO2.out.c 1 _ rfl
    have o_2 := HO2.out.c 2 _ rfl
    have o_z := HO2.out.fz
    go_wp2_with fail
    go_ret
    exact ⟨rfl, HB2.out⟩
  · have h60 := fits_60 HZ.out
    have HRP := Lib.hid (fun a cap w hin => HR.out a cap w h60 hin)
    have HSR := Lib.hid (fun a cap w hin => HSP.out a cap w h60 hin)
    have HOU := Lib.hid (fun w hin => ours_any a cap qs w h60 hin)
    have HIK := Lib.hid (HI.out.keep HB2.out)
    have HIKD := Lib.hid (HIK.out.keep (Below.refl _ _).drew)
    clear h60 HR HSP HZ
    have HC := Lib.hid (show GS w2 g h nm kd rl un lo hi st ss dk dn on off k n c w2 from ⟨HP2.out.c 0 _ rfl, HP2.out.c 1 _ rfl, HP2.out.c 2 _ rfl, HP2.out.c 3 _ rfl, HP2.out.c 4 _ rfl, HP2.out.c 5 _ rfl, HP2.out.c 6 _ rfl, HP2.out.c 7 _ rfl, HP2.out.c 8 _ rfl, HP2.out.c 9 _ rfl, HP2.out.c 10 _ rfl, HP2.out.c 11 _ rfl, HO2.out.c 0 _ rfl, HO2.out.c 1 _ rfl, HO2.out.c 2 _ rfl, Below.refl _ _⟩)
    have HCD := Lib.hid (gs_drew HC.out HC.out)
    have p0 := HP2.out.c 0 _ rfl
    have p1 := HP2.out.c 1 _ rfl
    have p2 := HP2.out.c 2 _ rfl
    have p3 := HP2.out.c 3 _ rfl
    have p4 := HP2.out.c 4 _ rfl
    have p5 := HP2.out.c 5 _ rfl
    have p6 := HP2.out.c 6 _ rfl
    have p7 := HP2.out.c 7 _ rfl
    have p8 := HP2.out.c 8 _ rfl
    have p9 := HP2.out.c 9 _ rfl
    have p10 := HP2.out.c 10 _ rfl
    have p11 := HP2.out.c 11 _ rfl
    have o0 := HO2.out.c 0 _ rfl
    have o1 := HO2.out.c 1 _ rfl
    have o2 := HO2.out.c 2 _ rfl
    go_wp2_with fail
    go_region_held3 (fun w' => w'.cell? ⟨g, 0, none⟩ = some (nm) ∧ w'.cell? ⟨g, 1, none⟩ = some (.int .i64 kd) ∧ w'.cell? ⟨g, 2, none⟩ = some (.int .i64 rl) ∧ w'.cell? ⟨g, 3, none⟩ = some (un) ∧ w'.cell? ⟨g, 4, none⟩ = some (lo) ∧ w'.cell? ⟨g, 5, none⟩ = some (hi) ∧ w'.cell? ⟨g, 6, none⟩ = some (st) ∧ w'.cell? ⟨g, 7, none⟩ = some (ss) ∧ w'.cell? ⟨g, 8, none⟩ = some (dk) ∧ w'.cell? ⟨g, 9, none⟩ = some (dn) ∧ w'.cell? ⟨g, 10, none⟩ = some (.int .i64 on) ∧ w'.cell? ⟨g, 11, none⟩ = some (.int .i64 off) ∧ w'.cell? ⟨h, 0, none⟩ = some (.int .i64 k) ∧ w'.cell? ⟨h, 1, none⟩ = some (.int .i64 n) ∧ w'.cell? ⟨h, 2, none⟩ = some (.int .i64 c) ∧ Below w2.heap.size w2 w')
      (first | (with_reducible exact HC.out) | (with_reducible exact HCD.out) | (with_reducible exact gs_keep HC.out hb2 (by assumption)) | (with_reducible exact gs_drew HC.out (by assumption)) | go_keep)
      (first | (go_at_call 13; refine (HOU.out _ (by first | exact HIK.out | exact HIKD.out)).mono ?_; rintro e x1 ⟨v, rfl, how, hb2⟩; obtain ⟨a1, c1, rfl, hi1⟩ := ins_own how; have HS1 : Hid (GS w2 g h nm kd rl un lo hi st ss dk dn on off k n c x1) := gs_keep HC.out hb2 (by assumption)) | (go_at_call 12; refine (HRP.out _ _ _ (by assumption)).mono ?_; rintro e x2 ⟨v2, rfl, how2, hb2⟩; obtain ⟨a2, c2, rfl, hi2⟩ := ins_own how2; have HS2 : Hid (GS w2 g h nm kd rl un lo hi st ss dk dn on off k n c x2) := gs_keep HC.out hb2 (by assumption)))
    all_goals
      rename_i hHeld
      clear hHeld
      have hG := gs_bel HS2.out
      have HP3 := Lib.hid (HP2.out.keep hG)
      have HO3 := Lib.hid (HO2.out.keep hG)
      have HB3 := Lib.hid (HB2.out.trans (hG.mono HB2.out.size))
      have HL3 := Lib.hid hi2
      clear hG hi2 how2 hi1 how HP2 HO2 HC HCD HS1 HS2 HOU HRP HIK HIKD
      clear p0 p1 p2 p3 p4 p5 p6 p7 p8 p9 p10 p11
      clear o0 o1 o2
      have p0 := HP3.out.c 0 _ rfl
      have p1 := HP3.out.c 1 _ rfl
      have p2 := HP3.out.c 2 _ rfl
      have p3 := HP3.out.c 3 _ rfl
      have p4 := HP3.out.c 4 _ rfl
      have p5 := HP3.out.c 5 _ rfl
      have p6 := HP3.out.c 6 _ rfl
      have p7 := HP3.out.c 7 _ rfl
      have p8 := HP3.out.c 8 _ rfl
      have p9 := HP3.out.c 9 _ rfl
      have p10 := HP3.out.c 10 _ rfl
      have p11 := HP3.out.c 11 _ rfl
      have o0 := HO3.out.c 0 _ rfl
      have o1 := HO3.out.c 1 _ rfl
      have o2 := HO3.out.c 2 _ rfl
      go_wp2_with fail
      refine (HSR.out _ _ _ (HI.out.keep HB3.out)).mono ?_
      rintro e w4 ⟨v4, rfl, how4, hb⟩
      obtain ⟨a4, c4, rfl, hi4⟩ := ins_own how4
      have HL4 := Lib.hid (HL3.out.keep hb)
      have HM4 := Lib.hid hi4
      have HB4 := Lib.hid (HB3.out.trans (hb.mono HB3.out.size))
      clear hb how4 hi4 HL3 HB3 HP3 HO3
      clear p0 p1 p2 p3 p4 p5 p6 p7 p8 p9 p10 p11
      clear o0 o1 o2
      go_wp2_with fail
      refine (same_any _ _ _ _ L L _ HL4.out HM4.out).mono ?_
      rintro e w5 ⟨rfl, hb⟩
      have HB5 := Lib.hid (HB4.out.trans (hb.mono HB4.out.size))
      clear hb
      rw [decide_eq_true (rfl : L = L)]
      go_wp2_with fail
      go_ret
      exact ⟨rfl, HB5.out⟩
end Go.Proofs.Ytlmcdnfihgimjaa
