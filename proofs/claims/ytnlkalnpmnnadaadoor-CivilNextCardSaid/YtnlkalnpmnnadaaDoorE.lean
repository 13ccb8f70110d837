/- The contract of the specification's Of. -/
import Derived.Test.YtnlkalnpmnnadaaDoorD
import Derived.Deep.RegionHeld3
namespace Go.Proofs.YtnlkalnpmnnadaaDoor
open Go.RowKit

/-- the cells of a date of the call's own -/
structure DateAt (w : World) (b : Nat) (y m d : Int) : Prop where
  c0 : w.cell? ⟨b, 0, none⟩ = some (.int .i64 y)
  c1 : w.cell? ⟨b, 1, none⟩ = some (.int .i64 m)
  c2 : w.cell? ⟨b, 2, none⟩ = some (.int .i64 d)
  fz : ∀ o, w.frozen? ⟨b, o, none⟩ = false
theorem DateAt.keep {w w' : World} {b : Nat} {y m d : Int} (h : DateAt w b y m d) (hb : Below w.heap.size w w') : DateAt w' b y m d := by
  have hlt : b < w.heap.size := World.block_lt_of_cell? _ _ h.c0
  exact ⟨(hb.cell (p := ⟨b, 0, none⟩) hlt).trans h.c0, (hb.cell (p := ⟨b, 1, none⟩) hlt).trans h.c1, (hb.cell (p := ⟨b, 2, none⟩) hlt).trans h.c2, fun o => (hb.frozen (p := ⟨b, o, none⟩) hlt).trans (h.fz o)⟩
/-- how far a cell is from a number -/
def farFrom (w : World) (b o : Nat) (t : Int) : Nat := match w.cell? ⟨b, o, none⟩ with | some (.int _ v) => (t - v).toNat | _ => 0
theorem farFrom_eq {w : World} {b o : Nat} {t v : Int} {k : IntKind} (h : w.cell? ⟨b, o, none⟩ = some (.int k v)) : farFrom w b o t = (t - v).toNat := by unfold farFrom; rw [h]
theorem DateAt.other {w : World} {b : Nat} {y m d : Int} (h : DateAt w b y m d) (b' o : Nat) (hne : b ≠ b') (v : Value) : DateAt (w.setCell ⟨b', o, none⟩ v) b y m d :=
  ⟨by rw [World.cell?_setCell_other _ _ _ _ (by simp)]; exact h.c0, by rw [World.cell?_setCell_other _ _ _ _ (by simp)]; exact h.c1, by rw [World.cell?_setCell_other _ _ _ _ (by simp)]; exact h.c2, fun o => by rw [World.frozen?_setCell]; exact h.fz o⟩
theorem DateAt.set0 {w : World} {b : Nat} {y m d : Int} (h : DateAt w b y m d) (y' : Int) : DateAt (w.setCell ⟨b, 0, none⟩ (.int .i64 y')) b y' m d :=
  ⟨World.cell?_setCell_same _ _ _ h.c0, by rw [World.cell?_setCell_other _ _ _ _ (by simp)]; exact h.c1, by rw [World.cell?_setCell_other _ _ _ _ (by simp)]; exact h.c2, fun o => by rw [World.frozen?_setCell]; exact h.fz o⟩
theorem DateAt.set1 {w : World} {b : Nat} {y m d : Int} (h : DateAt w b y m d) (y' : Int) : DateAt (w.setCell ⟨b, 1, none⟩ (.int .i64 y')) b y y' d :=
  ⟨by rw [World.cell?_setCell_other _ _ _ _ (by simp)]; exact h.c0, World.cell?_setCell_same _ _ _ h.c1, by rw [World.cell?_setCell_other _ _ _ _ (by simp)]; exact h.c2, fun o => by rw [World.frozen?_setCell]; exact h.fz o⟩
theorem DateAt.set2 {w : World} {b : Nat} {y m d : Int} (h : DateAt w b y m d) (y' : Int) : DateAt (w.setCell ⟨b, 2, none⟩ (.int .i64 y')) b y m y' :=
  ⟨by rw [World.cell?_setCell_other _ _ _ _ (by simp)]; exact h.c0, by rw [World.cell?_setCell_other _ _ _ _ (by simp)]; exact h.c1, World.cell?_setCell_same _ _ _ h.c2, fun o => by rw [World.frozen?_setCell]; exact h.fz o⟩

set_option maxHeartbeats 1000000 in
theorem rof_any (d : Int) (w : World) (h1 : 0 ≤ d) (h2 : d ≤ 73048) :
    Calls Tryd.prog 26 #[.int .i64 d] w fun e w' => ∃ y m k : Int, e = .returned (dateV y m k) ∧ IsD y m k ∧ numD y m k = d ∧ Below w.heap.size w w' := by
  have HD := Lib.hid fun y m w (a : 2000 ≤ y) (b : y ≤ 2200) (c : 1 ≤ m) (e : m ≤ 12) => rday_any y m 1 w ⟨a, b, c, e, by omega, by omega⟩
  have HY := Lib.hid (yOf_range d h1 h2)
  have l1 := Lib.hid (yOf_low d (by omega) (by omega))
  have l2 := Lib.hid (yOf_high d (by omega) (by omega))
  have HF := Lib.hid fun m (a : 1 ≤ m) (b : m ≤ 12) => isD_of (m := m) h1 h2 (yOf_low d (by omega) (by omega)) (yOf_high d (by omega) (by omega)) a b
  obtain ⟨y, hy⟩ : ∃ y, y = yOf d := ⟨_, rfl⟩
  rw [← hy] at HY l1 l2 HF
  clear hy
  go_enter Tryd.func26, Tryd.ntmps26
  go_wp2_with fail
  go_loopw [5] (fun _ wr => ∃ k : Int, 2000 ≤ k ∧ k ≤ y ∧ DateAt wr (w.heap.size + 1) k 1 1 ∧ DateAt wr w.heap.size 0 0 0 ∧ Below w.heap.size w wr) (fun _ wr => farFrom wr (w.heap.size + 1) 0 2300)
  case atStart => exact ⟨2000, by omega, HY.out.1, ⟨by simp, by simp, by simp, by simp⟩, ⟨by simp, by simp, by simp, by simp⟩, ((Below.refl _ _).alloc (Nat.le_refl _) _).alloc (by simp) _⟩
  case round =>
    obtain ⟨k, k1, k2, hdt, hrs, hb⟩ := hrel
    have HR := Lib.hid hrs
    clear hrs
    have HB := Lib.hid hb
    have HC := Lib.hid hdt
    have c0 := hdt.c0
    clear hdt
    clear hb
    have hk2 := HY.out.2
    have hn : numD (k + 1) 1 1 = nY (k + 1) := by unfold numD; rw [bef_one]; omega
    have hr := nY_range (k + 1) (by omega) (by omega)
    have HDk := Lib.hid fun w => HD.out (k + 1) 1 w (by omega) (by omega) (by omega) (by omega)
    rw [hn] at HDk
    by_cases hlt : k < y
    · have hle : nY (k + 1) ≤ d := by have := nY_mono (show k + 1 ≤ y by omega); have := l1.out; omega
      obtain ⟨a, ha⟩ : ∃ a, a = nY (k + 1) := ⟨_, rfl⟩
      rw [← ha] at HDk hle hr
      clear ha hn
      go_wp2_with fail
      refine (HDk.out _).mono ?_
      rintro e w1 ⟨rfl, hb1⟩
      have HC1 := Lib.hid (HC.out.keep hb1)
      have HR1 := Lib.hid (HR.out.keep hb1)
      have HB1 := Lib.hid (HB.out.trans (hb1.mono HB.out.size))
      have d0 := HC1.out.c0
      have fz := HC1.out.fz
      clear hb1
      go_wp2_with fail
      go_roundw
      case rel => exact ⟨k + 1, by omega, by omega, HC1.out.set0 _, HR1.out.other _ _ (by omega) _, HB1.out.setCell (by simp) _⟩
      case measure => rw [farFrom_eq (HC1.out.set0 _).c0, farFrom_eq HC.out.c0]; omega
    · obtain rfl : k = y := by omega
      have hgt : d < nY (k + 1) := l2.out
      have hle0 := l1.out
      have H1 := Lib.hid (bef_one k)
      have HDj := Lib.hid fun (j : Int) w (a : 1 ≤ j) (b : j ≤ 12) => (by
        have h := HD.out k j w (by omega) (by omega) a b
        rw [show numD k j 1 = nY k + bef k j by unfold numD; omega] at h
        exact h : Calls Tryd.prog 20 #[dateV k j 1] w fun e w' => e = .returned (.int .i64 (nY k + bef k j)) ∧ Below w.heap.size w w')
      have rn := nY_range k (by omega) (by omega)
      obtain ⟨a, ha⟩ : ∃ a, a = nY (k + 1) := ⟨_, rfl⟩
      rw [← ha] at HDk hgt hr
      obtain ⟨b, hb⟩ : ∃ b, b = nY k := ⟨_, rfl⟩
      rw [← hb] at hle0 HF HDj rn
      clear ha hb hn HD l1 l2 HY hlt
      go_wp2_with fail
      refine (HDk.out _).mono ?_
      rintro e w1 ⟨rfl, hb1⟩
      have HC1 := Lib.hid (HC.out.keep hb1)
      have HR1 := Lib.hid (HR.out.keep hb1)
      have HB1 := Lib.hid (HB.out.trans (hb1.mono HB.out.size))
      clear hb1 HDk HC HB c0 HR
      obtain ⟨wo, rfl⟩ : ∃ wo : World, wo = wr := ⟨_, rfl⟩
      go_wp2_with fail
      go_loopw [16] (fun _ wr => ∃ j : Int, 1 ≤ j ∧ j ≤ 12 ∧ bef k j ≤ d - b ∧ DateAt wr (w.heap.size + 1) k j 1 ∧ DateAt wr w.heap.size 0 0 0 ∧ Below w.heap.size w wr) (fun _ wr => farFrom wr (w.heap.size + 1) 1 20)
      case atStart => exact ⟨1, by omega, by omega, by rw [H1.out]; omega, HC1.out, HR1.out, HB1.out⟩
      case round =>
        obtain ⟨j, j1, j2, hj, hdt, hrs, hb⟩ := hrel
        have HR := Lib.hid hrs
        clear hrs
        have HB := Lib.hid hb
        have HC := Lib.hid hdt
        have c0 := hdt.c0
        have c1 := hdt.c1
        have c2 := hdt.c2
        clear hb hdt
        have hbr := bef_range k j j1 (by omega)
        have HDD := Lib.hid fun w => HDj.out j w j1 j2
        have HFj := Lib.hid (HF.out j j1 j2)
        obtain ⟨f, hf⟩ : ∃ f, f = bef k j := ⟨_, rfl⟩
        rw [← hf] at HDD HFj hj hbr
        clear hf
        by_cases h12 : j < 12
        · have HDn := Lib.hid fun w => HDj.out (j + 1) w (by omega) (by omega)
          have hbr2 := bef_range k (j + 1) (by omega) (by omega)
          obtain ⟨g, hg⟩ : ∃ g, g = bef k (j + 1) := ⟨_, rfl⟩
          rw [← hg] at HDn HFj hbr2
          have HG := Lib.hid hg
          clear hg
          have t1 : decide (j < 12) = true := decide_eq_true h12
          by_cases hc : b + g ≤ d
          · go_wp2_with fail
            refine (HDn.out _).mono ?_
            rintro e w2 ⟨rfl, hb2⟩
            have HC2 := Lib.hid (HC.out.keep hb2)
            have HR2 := Lib.hid (HR.out.keep hb2)
            have HB2 := Lib.hid (HB.out.trans (hb2.mono HB.out.size))
            have d1 := HC2.out.c1
            have fz := HC2.out.fz
            clear hb2
            go_wp2_with fail
            go_roundw
            case rel => exact ⟨j + 1, by omega, by omega, by rw [← HG.out]; omega, HC2.out.set1 _, HR2.out.other _ _ (by omega) _, HB2.out.setCell (by simp) _⟩
            case measure => rw [farFrom_eq (HC2.out.set1 _).c1, farFrom_eq HC.out.c1]; omega
          · have HFk := Lib.hid (HFj.out hj (.inr (by omega)))
            go_wp2_with fail
            refine (HDn.out _).mono ?_
            rintro e w2 ⟨rfl, hb2⟩
            have HCx := Lib.hid (HC.out.keep hb2)
            have HRx := Lib.hid (HR.out.keep hb2)
            have HBx := Lib.hid (HB.out.trans (hb2.mono HB.out.size))
            have d0 := HCx.out.c0
            have d1 := HCx.out.c1
            have d2 := HCx.out.c2
            clear hb2 c0 c1 c2 HC HB
            go_wp2_with fail
            refine (HDD.out _).mono ?_
            rintro e w4 ⟨rfl, hb4⟩
            have HC4 := Lib.hid (HCx.out.keep hb4)
            have HR4 := Lib.hid (HRx.out.keep hb4)
            have s0 := HR4.out.c0
            have s1 := HR4.out.c1
            have s2 := HR4.out.c2
            have sz := HR4.out.fz
            have HB4 := Lib.hid (HBx.out.trans (hb4.mono HBx.out.size))
            have e0 := HC4.out.c0
            have e1 := HC4.out.c1
            have e2 := HC4.out.c2
            have fz := HC4.out.fz
            have hsz : w.heap.size + 1 < w4.heap.size := World.block_lt_of_cell? _ _ HC4.out.c0
            clear hb4
            go_wp2_with fail
            have e5 : d - b - f + 1 = 1 + d - (b + f) := by omega
            have HFz := HFk.out
            rw [e5] at HFz
            have HRa := HR4.out.other (w.heap.size + 1) 2 (by omega) (.int .i64 (1 + d - (b + f)))
            have y0 := (HRa.set0 k).c0
            have y1 := ((HRa.set0 k).set1 j).c1
            have y2 := (((HRa.set0 k).set1 j).set2 (1 + d - (b + f))).c2
            refine bodyPost_ret (v := dateV k j (1 + d - (b + f))) (by simp [results, Tryd.results26, go_sem, y0, y1, y2]) rfl ⟨k, j, _, rfl, HFz.1, HFz.2, ?_⟩
            exact (((HB4.out.setCell (by simp) _).setCell (Nat.le_refl _) _).setCell (Nat.le_refl _) _).setCell (Nat.le_refl _) _
        · have t1 : decide (j < 12) = false := decide_eq_false h12
          have HFk := Lib.hid (HFj.out hj (.inl (by omega)))
          have HCx := HC
          have HRx := HR
          have HBx := HB
          go_wp2_with fail
          refine (HDD.out _).mono ?_
          rintro e w4 ⟨rfl, hb4⟩
          have HC4 := Lib.hid (HCx.out.keep hb4)
          have HR4 := Lib.hid (HRx.out.keep hb4)
          have s0 := HR4.out.c0
          have s1 := HR4.out.c1
          have s2 := HR4.out.c2
          have sz := HR4.out.fz
          have HB4 := Lib.hid (HBx.out.trans (hb4.mono HBx.out.size))
          have e0 := HC4.out.c0
          have e1 := HC4.out.c1
          have e2 := HC4.out.c2
          have fz := HC4.out.fz
          have hsz : w.heap.size + 1 < w4.heap.size := World.block_lt_of_cell? _ _ HC4.out.c0
          clear hb4
          go_wp2_with fail
          have e5 : d - b - f + 1 = 1 + d - (b + f) := by omega
          have HFz := HFk.out
          rw [e5] at HFz
          have HRa := HR4.out.other (w.heap.size + 1) 2 (by omega) (.int .i64 (1 + d - (b + f)))
          have y0 := (HRa.set0 k).c0
          have y1 := ((HRa.set0 k).set1 j).c1
          have y2 := (((HRa.set0 k).set1 j).set2 (1 + d - (b + f))).c2
          refine bodyPost_ret (v := dateV k j (1 + d - (b + f))) (by simp [results, Tryd.results26, go_sem, y0, y1, y2]) rfl ⟨k, j, _, rfl, HFz.1, HFz.2, ?_⟩
          exact (((HB4.out.setCell (by simp) _).setCell (Nat.le_refl _) _).setCell (Nat.le_refl _) _).setCell (Nat.le_refl _) _
end Go.Proofs.YtnlkalnpmnnadaaDoor
