/- Step at the chapter's example; the specification's Same of two lists that are equal. -/
import Derived.Test.YtepmeacdacnhmaaPo
import Derived.Laws.EntriesVeiled
namespace Go.Proofs.Ytepmeacdacnhmaa
open Go.RowKit Go.Shelf Go.Maps Go.WideMaps

theorem atPid (s1 s2 : Nat) (zd : DataW Value) : (lawsD s1 s2).atKey (.string [112, 105, 100]) zd = .held (pidLaw s1) := rfl
theorem hasPid (s1 s2 : Nat) : Maps.has (lawsD s1 s2) (.string [112, 105, 100]) = true := rfl
theorem zeroLaw : ∃ z, ∀ w, (zeroValue 58).run Try.prog w = .ok z w := ⟨_, fun _ => rfl⟩
theorem look_pid {w : World} {b s1 s2 : Nat} (h : w.ownsMap Try.prog 9 heldE b 2 (lawsD s1 s2)) : (Instr.lookup 60 (.map (some b)) (.string ⟨#[112, 105, 100]⟩) true).run Try.prog w = .ok (.tuple #[.agg #[.int .i64 5, .int .i64 3, .slice (some ⟨s1, 0, none⟩) 3 3, .func (.func 35) #[] #[], .func (.func 36) #[] #[]], .bool true]) w := by
  obtain ⟨z, hz⟩ := zeroLaw
  obtain ⟨v, ps, hrun, hv⟩ := h.look_ok (t := 60) (z := z) (zd := .held z) (zp := []) lawS Try.underlying60 (hz w) rfl keyPid
  rw [atPid] at hv
  rw [heldE_inv hv, hasPid] at hrun
  exact hrun
set_option maxHeartbeats 4000000 in
set_option maxRecDepth 100000 in
theorem step_ex (pb sb ib : Nat) (w : World) (hp : RowAt w pb [.int .i64 2000, .int .i64 60, .int .i64 0, .int .i64 100000, .int .i64 0]) (hs : RowAt w sb [.int .i64 0, .int .i64 0, .int .i64 0]) (hi : RowAt w ib [.int .i64 1, .int .i64 21000, .int .i64 1, .int .i64 20000, .int .i64 2, .int .i64 1]) :
    Calls Try.prog 15 #[.string ⟨#[112, 105, 100]⟩, .slice (some ⟨pb, 0, none⟩) 5 5, .slice (some ⟨sb, 0, none⟩) 3 3, .slice (some ⟨ib, 0, none⟩) 3 3, .int .i64 30] w fun e w' => ∃ nb, e = .returned (.tuple #[.slice (some ⟨nb, 0, none⟩) 3 3, .agg #[.int .i64 1, .int .i64 1000], .int .i64 0]) ∧ RowAt w' nb [.int .i64 1, .int .i64 (-1000), .int .i64 0] ∧ Below w.heap.size w w' := by
  have KT := Lib.hid (fun w => show Calls Try.prog 21 #[.int .i64 30] w fun e w' => e = .returned (.bool true) ∧ w = w' by have h := isTime_any 30 w; rw [timeB_ex] at h; exact h)
  obtain ⟨W, r, hW, hr, RR, B, sz⟩ := box1 w #[.int .i64 0, .int .i64 0] 43
  have hwr : w.heap.size ≤ r := by omega
  have HWR := Lib.hid hwr
  have HP := Lib.hid (hp.keep B)
  have HQ := Lib.hid (hs.keep B)
  have HI := Lib.hid (hi.keep B)
  have HR := Lib.hid RR
  have HB := Lib.hid B
  go_enter Try.func15, Try.ntmps15
  go_upto_region 1 with fail
  rw [← hW]
  try rw [← hr]
  clear hW hr sz RR B hwr hp hs hi
  go_wp2_with fail
  refine (laws_any _).mono ?_
  rintro e w1 ⟨b, s1, s2, rfl, hown, hrow, hb⟩
  have hl := look_pid hown
  obtain ⟨W2, m, hW2, hm, RM, BM, szm⟩ := box1 w1 #[.int .i64 5, .int .i64 3, .slice (some ⟨s1, 0, none⟩) 3 3, .func (.func 35) #[] #[], .func (.func 36) #[] #[]] 58
  have hbb := hb.trans (BM.mono hb.size)
  have HM1 := Lib.hid RM
  have HK1 := Lib.hid (hrow.keep BM)
  have HP1 := Lib.hid (HP.out.keep hbb)
  have HQ1 := Lib.hid (HQ.out.keep hbb)
  have HI1 := Lib.hid (HI.out.keep hbb)
  have HR1 := Lib.hid (HR.out.keep hbb)
  have HB1 := Lib.hid (HB.out.trans (hbb.mono HB.out.size))
  clear hbb HP HQ HI HR HB
  clear hown hrow hb
  go_upto_region 2 with fail
  rw [← hW2]
  try rw [← hm]
  clear hW2 hm RM BM szm hl
  have m_0 := HM1.out.c 0 _ rfl
  have m_1 := HM1.out.c 1 _ rfl
  have m_2 := HM1.out.c 2 _ rfl
  have m_3 := HM1.out.c 3 _ rfl
  have m_4 := HM1.out.c 4 _ rfl
  go_wp2_with fail
  refine (isController_ex pb sb _ HP1.out HQ1.out).mono ?_
  rintro e w3 ⟨rfl, hb⟩
  clear m_0 m_1 m_2 m_3 m_4
  have HP2 := Lib.hid (HP1.out.keep hb)
  have HQ2 := Lib.hid (HQ1.out.keep hb)
  have HI2 := Lib.hid (HI1.out.keep hb)
  have HR2 := Lib.hid (HR1.out.keep hb)
  have HM2 := Lib.hid (HM1.out.keep hb)
  have HK2 := Lib.hid (HK1.out.keep hb)
  have HB2 := Lib.hid (HB1.out.trans (hb.mono HB1.out.size))
  clear hb HP1 HQ1 HI1 HR1 HM1 HK1 HB1
  go_wp2_with fail
  refine (KT.out _).mono ?_
  rintro e w' ⟨rfl, rfl⟩
  have m_0 := HM2.out.c 0 _ rfl
  have m_1 := HM2.out.c 1 _ rfl
  have m_2 := HM2.out.c 2 _ rfl
  have m_3 := HM2.out.c 3 _ rfl
  have m_4 := HM2.out.c 4 _ rfl
  go_wp2_with fail
  refine (nums_any s1 ib 21000 20000 _ HK2.out HI2.out).mono ?_
  rintro e w4 ⟨v, rfl, ho, hb⟩
  obtain ⟨a, c, rfl, hin⟩ := ins_own ho
  have hin2 := hin
  obtain ⟨_, _, hc | ⟨b', o', rfl, _, _⟩⟩ := hin
  · exact absurd hc (by decide)
  · have HN3 := Lib.hid hin2
    clear m_0 m_1 m_2 m_3 m_4
    have HP3 := Lib.hid (HP2.out.keep hb)
    have HQ3 := Lib.hid (HQ2.out.keep hb)
    have HI3 := Lib.hid (HI2.out.keep hb)
    have HR3 := Lib.hid (HR2.out.keep hb)
    have HM3 := Lib.hid (HM2.out.keep hb)
    have HK3 := Lib.hid (HK2.out.keep hb)
    have HB3 := Lib.hid (HB2.out.trans (hb.mono HB2.out.size))
    clear hb HP2 HQ2 HI2 HR2 HM2 HK2 HB2
    clear ho hin2
    have m_0 := HM3.out.c 0 _ rfl
    have m_1 := HM3.out.c 1 _ rfl
    have m_2 := HM3.out.c 2 _ rfl
    have m_3 := HM3.out.c 3 _ rfl
    have m_4 := HM3.out.c 4 _ rfl
    go_wp2_with fail
    refine (controllerScan_ex pb sb b' o' c _ HP3.out HQ3.out HN3.out).mono ?_
    rintro e w5 ⟨nb, rfl, hge, hnb, hb⟩
    have hrn : r ≠ nb := by have := HR3.out.lt; omega
    have HNB := Lib.hid hnb
    clear m_0 m_1 m_2 m_3 m_4
    have HR4 := Lib.hid (HR3.out.keep hb)
    have HM4 := Lib.hid (HM3.out.keep hb)
    have HB4 := Lib.hid (HB3.out.trans (hb.mono HB3.out.size))
    clear hb HR3 HM3 HB3
    clear hge hnb
    have r_0 := HR4.out.c 0 _ rfl
    have r_1 := HR4.out.c 1 _ rfl
    have r_z := HR4.out.fz
    go_wp2_with fail
    have hs := HR4.out.setRow [.int .i64 1, .int .i64 1000] rfl
    have hB := set_below HB4.out HWR.out [.int .i64 1, .int .i64 1000]
    have hN := HNB.out.other hrn [.int .i64 1, .int .i64 1000]
    have y0 : ((w5.setCell ⟨r, 0, none⟩ (.int .i64 1)).setCell ⟨r, 1, none⟩ (.int .i64 1000)).cell? ⟨r, 0, none⟩ = some (.int .i64 1) := hs.c 0 _ rfl
    have y1 : ((w5.setCell ⟨r, 0, none⟩ (.int .i64 1)).setCell ⟨r, 1, none⟩ (.int .i64 1000)).cell? ⟨r, 1, none⟩ = some (.int .i64 1000) := hs.c 1 _ rfl
    (try simp only [Exit.inBlock, Exit.then])
    refine bodyPost_ret (by simp [results, Try.results15, go_sem, y0, y1]; try rfl) rfl ?_
    exact ⟨_, rfl, hN, hB⟩
set_option maxHeartbeats 4000000 in
theorem same_ex (ab bb : Nat) (w : World) (ha : RowAt w ab [.int .i64 1, .int .i64 (-1000), .int .i64 0]) (hb : RowAt w bb [.int .i64 1, .int .i64 (-1000), .int .i64 0]) :
    Calls Try.prog 16 #[.slice (some ⟨ab, 0, none⟩) 3 3, .slice (some ⟨bb, 0, none⟩) 3 3] w fun e w' => e = .returned (.bool true) ∧ Below w.heap.size w w' := by
  have HA := Lib.hid ha
  have HC := Lib.hid hb
  clear ha hb
  go_enter Try.func16, Try.ntmps16
  go_wp2_with fail
  go_loopw [5] (fun k wr => ∃ j : Nat, j ≤ 3 ∧ k = .int .i64 j ∧ Hid (Below w.heap.size w wr)) (fun k _ => 3 - (intOf k).toNat)
  case atStart => exact ⟨0, by omega, rfl, Lib.hid (Below.refl _ _)⟩
  case round =>
    obtain ⟨j, hj, rfl, HB⟩ := hrel
    have h4 : j = 0 ∨ j = 1 ∨ j = 2 ∨ j = 3 := by omega
    clear hj
    rcases h4 with rfl | rfl | rfl | rfl
    · have a0 := (HA.out.keep HB.out).c 0 _ rfl
      have c0 := (HC.out.keep HB.out).c 0 _ rfl
      go_upto_region 6 with fail
      go_quiet (fail)
      (try simp only [Exit.then])
      have HB2 := Lib.hid (HB.out.trans (below_drewN _ _ nq))
      clear a0 c0
      go_wp2_with fail
      go_roundw
      case rel => exact ⟨0 + 1, by omega, by go_num, HB2⟩
      case measure => (simp [intOf]) <;> omega
    · have a0 := (HA.out.keep HB.out).c 1 _ rfl
      have c0 := (HC.out.keep HB.out).c 1 _ rfl
      go_upto_region 6 with fail
      go_quiet (fail)
      (try simp only [Exit.then])
      have HB2 := Lib.hid (HB.out.trans (below_drewN _ _ nq))
      clear a0 c0
      go_wp2_with fail
      go_roundw
      case rel => exact ⟨1 + 1, by omega, by go_num, HB2⟩
      case measure => (simp [intOf]) <;> omega
    · have a0 := (HA.out.keep HB.out).c 2 _ rfl
      have c0 := (HC.out.keep HB.out).c 2 _ rfl
      go_upto_region 6 with fail
      go_quiet (fail)
      (try simp only [Exit.then])
      have HB2 := Lib.hid (HB.out.trans (below_drewN _ _ nq))
      clear a0 c0
      go_wp2_with fail
      go_roundw
      case rel => exact ⟨2 + 1, by omega, by go_num, HB2⟩
      case measure => (simp [intOf]) <;> omega
    · go_wp2_with fail
      go_ret
      exact ⟨rfl, HB.out⟩
end Go.Proofs.Ytepmeacdacnhmaa
