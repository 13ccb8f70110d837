/- Contracts of Control where it refuses its arguments, and of Track with an integral part. -/
import Derived.Test.YtepmeacdacnhmaaPe
namespace Go.Proofs.Ytepmeacdacnhmaa
open Go.RowKit

def okB (kp ti lo hi sm rs n : Int) : Bool := setB kp ti lo hi && posB sm rs && timeB n
set_option maxHeartbeats 4000000 in
theorem control_no (kp ti lo hi : Int) (rv rd : Bool) (sm rs set now n : Int) (w : World) (hk : okB kp ti lo hi sm rs n = false) :
    Calls Try.prog 9 #[.agg #[.int .i64 kp, .int .i64 ti, .int .i64 lo, .int .i64 hi, .bool rv], .agg #[.bool rd, .int .i64 sm, .int .i64 rs], .int .i64 set, .int .i64 now, .int .i64 n] w fun e w' => e = .returned (.tuple #[.agg #[.bool false, .int .i64 0, .int .i64 0], .int .i64 0, .int .i64 1]) ∧ Below w.heap.size w w' := by
  have kc := fun w => check_any kp ti lo hi rv w
  have kx := fun w => possible_any rd sm rs w
  have kt := fun w => isTime_any n w
  unfold okB at hk
  obtain ⟨F, hF⟩ : ∃ F, F = setB kp ti lo hi := ⟨_, rfl⟩
  obtain ⟨X, hX⟩ : ∃ X, X = posB sm rs := ⟨_, rfl⟩
  obtain ⟨T, hT⟩ : ∃ T, T = timeB n := ⟨_, rfl⟩
  rw [← hF] at hk kc
  rw [← hX] at hk kx
  rw [← hT] at hk kt
  have KC := Lib.hid kc
  have KX := Lib.hid kx
  have KT := Lib.hid kt
  have HK := Lib.hid hk
  clear hF hX hT hk kc kx kt
  obtain ⟨W, g, h, r, hW, hg, hh, hr, RG, RH, RR, B, sz⟩ := box3 w #[.int .i64 kp, .int .i64 ti, .int .i64 lo, .int .i64 hi, .bool rv] 26 #[.bool rd, .int .i64 sm, .int .i64 rs] 28 #[.bool false, .int .i64 0, .int .i64 0] 28
  have hwr : w.heap.size ≤ r := by omega
  have HWR := Lib.hid hwr
  have HG := Lib.hid RG
  have HH := Lib.hid RH
  have HR := Lib.hid RR
  have HB := Lib.hid B
  go_enter Try.func9, Try.ntmps9
  go_upto_region 1 with fail
  rw [← hW]
  try rw [← hr]
  try rw [← hh]
  try rw [← hg]
  clear hW hg hh hr sz RG RH RR B hwr
  have g_0 := HG.out.c 0 _ rfl
  have g_1 := HG.out.c 1 _ rfl
  have g_2 := HG.out.c 2 _ rfl
  have g_3 := HG.out.c 3 _ rfl
  have g_4 := HG.out.c 4 _ rfl
  cases F
  · have KC0 := Lib.hid (fun w => show Calls Try.prog 19 #[.agg #[.int .i64 kp, .int .i64 ti, .int .i64 lo, .int .i64 hi, .bool rv]] w fun e w' => e = .returned (.int .i64 1) ∧ Below w.heap.size w w' from KC.out w)
    clear KC
    go_wp2_with fail
    refine (KC0.out _).mono ?_
    rintro e w1 ⟨rfl, hb⟩
    clear g_0 g_1 g_2 g_3 g_4
    have HG1 := Lib.hid (HG.out.keep hb)
    have HH1 := Lib.hid (HH.out.keep hb)
    have HR1 := Lib.hid (HR.out.keep hb)
    have HB1 := Lib.hid (HB.out.trans (hb.mono HB.out.size))
    clear hb HG HH HR HB
    have r_0 := HR1.out.c 0 _ rfl
    have r_1 := HR1.out.c 1 _ rfl
    have r_2 := HR1.out.c 2 _ rfl
    have r_z := HR1.out.fz
    go_wp2_with fail
    have hs := HR1.out.setRow [.bool false, .int .i64 0, .int .i64 0] rfl
    have hB := (set_below HB1.out HWR.out [.bool false, .int .i64 0, .int .i64 0])
    have y0 : (((w1.setCell ⟨r, 0, none⟩ (.bool false)).setCell ⟨r, 1, none⟩ (.int .i64 0)).setCell ⟨r, 2, none⟩ (.int .i64 0)).cell? ⟨r, 0, none⟩ = some (.bool false) := hs.c 0 _ rfl
    have y1 : (((w1.setCell ⟨r, 0, none⟩ (.bool false)).setCell ⟨r, 1, none⟩ (.int .i64 0)).setCell ⟨r, 2, none⟩ (.int .i64 0)).cell? ⟨r, 1, none⟩ = some (.int .i64 0) := hs.c 1 _ rfl
    have y2 : (((w1.setCell ⟨r, 0, none⟩ (.bool false)).setCell ⟨r, 1, none⟩ (.int .i64 0)).setCell ⟨r, 2, none⟩ (.int .i64 0)).cell? ⟨r, 2, none⟩ = some (.int .i64 0) := hs.c 2 _ rfl
    (try simp only [Exit.inBlock, Exit.then])
    refine bodyPost_ret (by simp [results, Try.results9, go_sem, y0, y1, y2]; try rfl) rfl ?_
    exact ⟨rfl, hB⟩
  · have KC0 := Lib.hid (fun w => show Calls Try.prog 19 #[.agg #[.int .i64 kp, .int .i64 ti, .int .i64 lo, .int .i64 hi, .bool rv]] w fun e w' => e = .returned (.int .i64 0) ∧ Below w.heap.size w w' from KC.out w)
    clear KC
    go_wp2_with fail
    refine (KC0.out _).mono ?_
    rintro e w1 ⟨rfl, hb⟩
    clear g_0 g_1 g_2 g_3 g_4
    have HG1 := Lib.hid (HG.out.keep hb)
    have HH1 := Lib.hid (HH.out.keep hb)
    have HR1 := Lib.hid (HR.out.keep hb)
    have HB1 := Lib.hid (HB.out.trans (hb.mono HB.out.size))
    clear hb HG HH HR HB
    have h_0 := HH1.out.c 0 _ rfl
    have h_1 := HH1.out.c 1 _ rfl
    have h_2 := HH1.out.c 2 _ rfl
    go_wp2_with fail
    refine (KX.out _).mono ?_
    rintro e w2 ⟨rfl, hb⟩
    clear h_0 h_1 h_2
    have HG2 := Lib.hid (HG1.out.keep hb)
    have HH2 := Lib.hid (HH1.out.keep hb)
    have HR2 := Lib.hid (HR1.out.keep hb)
    have HB2 := Lib.hid (HB1.out.trans (hb.mono HB1.out.size))
    clear hb HG1 HH1 HR1 HB1
    cases X
    · have r_0 := HR2.out.c 0 _ rfl
      have r_1 := HR2.out.c 1 _ rfl
      have r_2 := HR2.out.c 2 _ rfl
      have r_z := HR2.out.fz
      go_wp2_with fail
      have hs := HR2.out.setRow [.bool false, .int .i64 0, .int .i64 0] rfl
      have hB := (set_below HB2.out HWR.out [.bool false, .int .i64 0, .int .i64 0])
      have y0 : (((w2.setCell ⟨r, 0, none⟩ (.bool false)).setCell ⟨r, 1, none⟩ (.int .i64 0)).setCell ⟨r, 2, none⟩ (.int .i64 0)).cell? ⟨r, 0, none⟩ = some (.bool false) := hs.c 0 _ rfl
      have y1 : (((w2.setCell ⟨r, 0, none⟩ (.bool false)).setCell ⟨r, 1, none⟩ (.int .i64 0)).setCell ⟨r, 2, none⟩ (.int .i64 0)).cell? ⟨r, 1, none⟩ = some (.int .i64 0) := hs.c 1 _ rfl
      have y2 : (((w2.setCell ⟨r, 0, none⟩ (.bool false)).setCell ⟨r, 1, none⟩ (.int .i64 0)).setCell ⟨r, 2, none⟩ (.int .i64 0)).cell? ⟨r, 2, none⟩ = some (.int .i64 0) := hs.c 2 _ rfl
      (try simp only [Exit.inBlock, Exit.then])
      refine bodyPost_ret (by simp [results, Try.results9, go_sem, y0, y1, y2]; try rfl) rfl ?_
      exact ⟨rfl, hB⟩
    · have ht : T = false := by have := HK.out; simpa using this
      subst ht
      go_wp2_with fail
      refine (KT.out _).mono ?_
      rintro e w' ⟨rfl, rfl⟩
      have r_0 := HR2.out.c 0 _ rfl
      have r_1 := HR2.out.c 1 _ rfl
      have r_2 := HR2.out.c 2 _ rfl
      have r_z := HR2.out.fz
      go_wp2_with fail
      have hs := HR2.out.setRow [.bool false, .int .i64 0, .int .i64 0] rfl
      have hB := (set_below HB2.out HWR.out [.bool false, .int .i64 0, .int .i64 0])
      have y0 : (((w2.setCell ⟨r, 0, none⟩ (.bool false)).setCell ⟨r, 1, none⟩ (.int .i64 0)).setCell ⟨r, 2, none⟩ (.int .i64 0)).cell? ⟨r, 0, none⟩ = some (.bool false) := hs.c 0 _ rfl
      have y1 : (((w2.setCell ⟨r, 0, none⟩ (.bool false)).setCell ⟨r, 1, none⟩ (.int .i64 0)).setCell ⟨r, 2, none⟩ (.int .i64 0)).cell? ⟨r, 1, none⟩ = some (.int .i64 0) := hs.c 1 _ rfl
      have y2 : (((w2.setCell ⟨r, 0, none⟩ (.bool false)).setCell ⟨r, 1, none⟩ (.int .i64 0)).setCell ⟨r, 2, none⟩ (.int .i64 0)).cell? ⟨r, 2, none⟩ = some (.int .i64 0) := hs.c 2 _ rfl
      (try simp only [Exit.inBlock, Exit.then])
      refine bodyPost_ret (by simp [results, Try.results9, go_sem, y0, y1, y2]; try rfl) rfl ?_
      exact ⟨rfl, hB⟩
theorem s5_set {w : World} {g r : Nat} {kp ti lo hi : Int} {rv : Bool} {x : World} (s : S5 w g kp ti lo hi rv x) (hne : r ≠ g) (hr : w.heap.size ≤ r) (M : List Value) : S5 w g kp ti lo hi rv (x.setCells r 0 M) :=
  ⟨(cell_setCells_other hne M 0 x 0).trans s.1, (cell_setCells_other hne M 0 x 1).trans s.2.1, (cell_setCells_other hne M 0 x 2).trans s.2.2.1, (cell_setCells_other hne M 0 x 3).trans s.2.2.2.1, (cell_setCells_other hne M 0 x 4).trans s.2.2.2.2.1, set_below s.2.2.2.2.2 hr M⟩
def trkI (kp lo hi : Int) (rv : Bool) (set now o : Int) : Int := limI o lo hi - propI kp rv set now
theorem set_of {kp ti lo hi : Int} (hs : setB kp ti lo hi = true) : -1000000000000 ≤ lo ∧ hi ≤ 1000000000000 ∧ lo ≤ hi := by
  unfold setB numB at hs
  simp only [Bool.and_eq_true, decide_eq_true_eq] at hs
  omega
set_option maxHeartbeats 4000000 in
theorem track_no (kp ti lo hi : Int) (rv : Bool) (set now o : Int) (w : World) (hs : setB kp ti lo hi = false) :
    Calls Try.prog 10 #[.agg #[.int .i64 kp, .int .i64 ti, .int .i64 lo, .int .i64 hi, .bool rv], .int .i64 set, .int .i64 now, .int .i64 o] w fun e w' => e = .returned (.tuple #[.agg #[.bool false, .int .i64 0, .int .i64 0], .int .i64 1]) ∧ Below w.heap.size w w' := by
  have KC := Lib.hid (fun w => show Calls Try.prog 19 #[.agg #[.int .i64 kp, .int .i64 ti, .int .i64 lo, .int .i64 hi, .bool rv]] w fun e w' => e = .returned (.int .i64 1) ∧ Below w.heap.size w w' by have h := check_any kp ti lo hi rv w; rw [hs] at h; exact h)
  clear hs
  obtain ⟨W, g, r, hW, hg, hr, RG, RR, B, sz⟩ := box2 w #[.int .i64 kp, .int .i64 ti, .int .i64 lo, .int .i64 hi, .bool rv] 26 #[.bool false, .int .i64 0, .int .i64 0] 28
  have hwr : w.heap.size ≤ r := by omega
  have hrg : r ≠ g := by omega
  have HWR := Lib.hid hwr
  have HG := Lib.hid RG
  have HR := Lib.hid RR
  have HB := Lib.hid B
  go_enter Try.func10, Try.ntmps10
  go_upto_region 1 with fail
  rw [← hW]
  try rw [← hr]
  try rw [← hg]
  clear hW hg hr sz RG RR B hwr
  have g_0 := HG.out.c 0 _ rfl
  have g_1 := HG.out.c 1 _ rfl
  have g_2 := HG.out.c 2 _ rfl
  have g_3 := HG.out.c 3 _ rfl
  have g_4 := HG.out.c 4 _ rfl
  go_wp2_with fail
  refine (KC.out _).mono ?_
  rintro e w1 ⟨rfl, hb⟩
  clear g_0 g_1 g_2 g_3 g_4
  have HG1 := Lib.hid (HG.out.keep hb)
  have HR1 := Lib.hid (HR.out.keep hb)
  have HB1 := Lib.hid (HB.out.trans (hb.mono HB.out.size))
  clear hb HG HR HB
  have r_0 := HR1.out.c 0 _ rfl
  have r_1 := HR1.out.c 1 _ rfl
  have r_2 := HR1.out.c 2 _ rfl
  have r_z := HR1.out.fz
  go_wp2_with fail
  have hs := HR1.out.setRow [.bool false, .int .i64 0, .int .i64 0] rfl
  have hB := (set_below HB1.out HWR.out [.bool false, .int .i64 0, .int .i64 0])
  have y0 : (((w1.setCell ⟨r, 0, none⟩ (.bool false)).setCell ⟨r, 1, none⟩ (.int .i64 0)).setCell ⟨r, 2, none⟩ (.int .i64 0)).cell? ⟨r, 0, none⟩ = some (.bool false) := hs.c 0 _ rfl
  have y1 : (((w1.setCell ⟨r, 0, none⟩ (.bool false)).setCell ⟨r, 1, none⟩ (.int .i64 0)).setCell ⟨r, 2, none⟩ (.int .i64 0)).cell? ⟨r, 1, none⟩ = some (.int .i64 0) := hs.c 1 _ rfl
  have y2 : (((w1.setCell ⟨r, 0, none⟩ (.bool false)).setCell ⟨r, 1, none⟩ (.int .i64 0)).setCell ⟨r, 2, none⟩ (.int .i64 0)).cell? ⟨r, 2, none⟩ = some (.int .i64 0) := hs.c 2 _ rfl
  (try simp only [Exit.inBlock, Exit.then])
  refine bodyPost_ret (by simp [results, Try.results10, go_sem, y0, y1, y2]; try rfl) rfl ?_
  exact ⟨rfl, hB⟩
set_option maxHeartbeats 4000000 in
theorem track_yes (kp ti lo hi : Int) (rv : Bool) (set now o : Int) (w : World) (hs : setB kp ti lo hi = true) (ht : ti ≠ 0) :
    Calls Try.prog 10 #[.agg #[.int .i64 kp, .int .i64 ti, .int .i64 lo, .int .i64 hi, .bool rv], .int .i64 set, .int .i64 now, .int .i64 o] w fun e w' => e = .returned (.tuple #[.agg #[.bool true, .int .i64 (trkI kp lo hi rv set now o), .int .i64 0], .int .i64 0]) ∧ Below w.heap.size w w' := by
  have KC := Lib.hid (fun w => show Calls Try.prog 19 #[.agg #[.int .i64 kp, .int .i64 ti, .int .i64 lo, .int .i64 hi, .bool rv]] w fun e w' => e = .returned (.int .i64 0) ∧ Below w.heap.size w w' by have h := check_any kp ti lo hi rv w; rw [if_pos hs] at h; exact h)
  obtain ⟨p, hp⟩ : ∃ p, p = propI kp rv set now := ⟨_, rfl⟩
  obtain ⟨q, hq⟩ : ∃ q, q = limI o lo hi := ⟨_, rfl⟩
  obtain ⟨M, hM⟩ : ∃ M, M = trkI kp lo hi rv set now o := ⟨_, rfl⟩
  have pr := propI_range kp rv set now
  have sr := set_of hs
  have qr := limI_range o lo hi sr.2.2
  rw [← hp] at pr
  rw [← hq] at qr
  have KP := Lib.hid (fun w => show Calls Try.prog 8 #[.agg #[.int .i64 kp, .int .i64 ti, .int .i64 lo, .int .i64 hi, .bool rv], .int .i64 set, .int .i64 now] w fun e w' => e = .returned (.int .i64 p) ∧ Below w.heap.size w w' by rw [hp]; exact prop_any kp ti lo hi rv set now w)
  have KL := Lib.hid (fun w => show Calls Try.prog 23 #[.int .i64 o, .int .i64 lo, .int .i64 hi] w fun e w' => e = .returned (.int .i64 q) ∧ w = w' by rw [hq]; exact limited_any o lo hi w)
  have wm : IntKind.i64.wrap (q - p) = M := by rw [IntWalk.i64_in _ (by omega), hM, hq, hp]; rfl
  rw [← hM]
  have HT := Lib.hid ht
  clear hp hq hM pr sr qr hs ht
  obtain ⟨W, g, r, hW, hg, hr, RG, RR, B, sz⟩ := box2 w #[.int .i64 kp, .int .i64 ti, .int .i64 lo, .int .i64 hi, .bool rv] 26 #[.bool false, .int .i64 0, .int .i64 0] 28
  have hwr : w.heap.size ≤ r := by omega
  have hrg : r ≠ g := by omega
  have HWR := Lib.hid hwr
  have HG := Lib.hid RG
  have HR := Lib.hid RR
  have HB := Lib.hid B
  go_enter Try.func10, Try.ntmps10
  go_upto_region 1 with fail
  rw [← hW]
  try rw [← hr]
  try rw [← hg]
  clear hW hg hr sz RG RR B hwr
  have g_0 := HG.out.c 0 _ rfl
  have g_1 := HG.out.c 1 _ rfl
  have g_2 := HG.out.c 2 _ rfl
  have g_3 := HG.out.c 3 _ rfl
  have g_4 := HG.out.c 4 _ rfl
  go_wp2_with fail
  refine (KC.out _).mono ?_
  rintro e w1 ⟨rfl, hb⟩
  clear g_0 g_1 g_2 g_3 g_4
  have HG1 := Lib.hid (HG.out.keep hb)
  have HR1 := Lib.hid (HR.out.keep hb)
  have HB1 := Lib.hid (HB.out.trans (hb.mono HB.out.size))
  clear hb HG HR HB
  have g_0 := HG1.out.c 0 _ rfl
  have g_1 := HG1.out.c 1 _ rfl
  have g_2 := HG1.out.c 2 _ rfl
  have g_3 := HG1.out.c 3 _ rfl
  have g_4 := HG1.out.c 4 _ rfl
  have r_0 := HR1.out.c 0 _ rfl
  have r_1 := HR1.out.c 1 _ rfl
  have r_2 := HR1.out.c 2 _ rfl
  have r_z := HR1.out.fz
  have hti : ¬ ti = 0 := HT.out
  have tti : (ti == 0) = false := by rw [beq_eq_false_iff_ne]; exact HT.out
  have HD := Lib.hid (show S5 w g kp ti lo hi rv w1 from ⟨g_0, g_1, g_2, g_3, g_4, HB1.out⟩)
  have HDD := Lib.hid (s5_drew HD.out)
  have HRG := Lib.hid hrg
  go_upto_region 6 with fail
  go_region_held3 (fun w' => w'.cell? ⟨g, 0, none⟩ = some (.int .i64 kp) ∧ w'.cell? ⟨g, 1, none⟩ = some (.int .i64 ti) ∧ w'.cell? ⟨g, 2, none⟩ = some (.int .i64 lo) ∧ w'.cell? ⟨g, 3, none⟩ = some (.int .i64 hi) ∧ w'.cell? ⟨g, 4, none⟩ = some (.bool rv) ∧ Below w.heap.size w w')
    (first | (with_reducible exact HD.out) | (with_reducible exact HDD.out) | (with_reducible exact HS1.out) | (with_reducible exact s5_drew HS1.out) | (exact s5_set HS1.out HRG.out HWR.out [.bool true, .int .i64 M, .int .i64 0]) | go_keep)
    (first | (go_at_call 23; refine (KL.out _).mono ?_; rintro e w' ⟨rfl, rfl⟩) | (go_at_call 8; refine (KP.out _).mono ?_; rintro e x1 ⟨rfl, hb2⟩; have HS1 : Hid (S5 w g kp ti lo hi rv x1) := s5_keep hb2 (by first | assumption | exact HD.out | exact HDD.out); have HR2 := Lib.hid (show RowAt x1 r [.bool false, .int .i64 0, .int .i64 0] from (by first | exact HR1.out.keep hb2 | exact HR1.out.drew.keep hb2)); have rr := HR2.out; have rz := rr.fz; have rr0 := rr.c 0 _ rfl; have rr1 := rr.c 1 _ rfl; have rr2 := rr.c 2 _ rfl) | (fail))
  all_goals
    rename_i hHeld
    clear hHeld
    go_wp2_with fail
    have hs := HR2.out.setRow [.bool true, .int .i64 M, .int .i64 0] rfl
    have hB := (set_below HS1.out.2.2.2.2.2 HWR.out [.bool true, .int .i64 M, .int .i64 0])
    have y0 : (((x1.setCell ⟨r, 0, none⟩ (.bool true)).setCell ⟨r, 1, none⟩ (.int .i64 M)).setCell ⟨r, 2, none⟩ (.int .i64 0)).cell? ⟨r, 0, none⟩ = some (.bool true) := hs.c 0 _ rfl
    have y1 : (((x1.setCell ⟨r, 0, none⟩ (.bool true)).setCell ⟨r, 1, none⟩ (.int .i64 M)).setCell ⟨r, 2, none⟩ (.int .i64 0)).cell? ⟨r, 1, none⟩ = some (.int .i64 M) := hs.c 1 _ rfl
    have y2 : (((x1.setCell ⟨r, 0, none⟩ (.bool true)).setCell ⟨r, 1, none⟩ (.int .i64 M)).setCell ⟨r, 2, none⟩ (.int .i64 0)).cell? ⟨r, 2, none⟩ = some (.int .i64 0) := hs.c 2 _ rfl
    (try simp only [Exit.inBlock, Exit.then])
    refine bodyPost_ret (by simp [results, Try.results10, go_sem, y0, y1, y2]; try rfl) rfl ?_
    exact ⟨rfl, hB⟩
end Go.Proofs.Ytepmeacdacnhmaa
