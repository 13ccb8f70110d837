/- The law Monotone. -/
import Derived.Test.YtaobbedajgkmiaaDoorFz
import Derived.Deep.RegionWith
namespace Go.Proofs.YtaobbedajgkmiaaDoor
open Go.RowKit Go.Shelf

set_option linter.unusedVariables false
set_option linter.unusedSimpArgs false
abbrev M1 (w : World) (nb oo : Nat) (nm : ByteArray) (w' : World) : Prop := w'.cell? ⟨nb, oo, none⟩ = some (.string nm) ∧ Below w.heap.size w w'
theorem m1_of {w : World} {nb oo : Nat} {nm : ByteArray} {w' : World} (s : M1 w nb oo nm w) (hb : Below w.heap.size w w') : M1 w nb oo nm w' := by
  obtain ⟨s0, _⟩ := s
  have h_nb : nb < w.heap.size := World.block_lt_of_cell? _ _ s0
  exact ⟨(hb.cell (p := ⟨nb, oo, none⟩) h_nb).trans s0, hb⟩
theorem m1_bel {w : World} {nb oo : Nat} {nm : ByteArray} {w' : World} (s : M1 w nb oo nm w') : Below w.heap.size w w' := s.2
theorem m1_keep {w : World} {nb oo : Nat} {nm : ByteArray} {w1 w2 : World} (c : M1 w nb oo nm w) (hb : Below w1.heap.size w1 w2) (s : M1 w nb oo nm w1) : M1 w nb oo nm w2 := m1_of c ((m1_bel s).trans (hb.mono (m1_bel s).size))
theorem m1_alloc {w : World} {nb oo : Nat} {nm : ByteArray} {w1 : World} (c : M1 w nb oo nm w) (o : Obj) (s : M1 w nb oo nm w1) : M1 w nb oo nm (w1.alloc o) := m1_of c ((m1_bel s).alloc (m1_bel s).size o)
theorem m1_drew {w : World} {nb oo : Nat} {nm : ByteArray} {w1 : World} (c : M1 w nb oo nm w) (s : M1 w nb oo nm w1) : M1 w nb oo nm w1.drew := m1_of c (m1_bel s).drew
theorem rowM_alloc {w : World} {b : Nat} {L : List Value} (h : RowAt w b L) (o : Obj) : RowAt (w.alloc o) b L := h.keep ((Below.refl _ _).alloc (Nat.le_refl _) _)
theorem row_fresh1 (w : World) (o : Obj) (A : Array Value) (T : TypeId) : RowAt ((w.alloc o).alloc (Obj.cells A T)) (w.heap.size + 1) A.toList := by have h := row_fresh (w.alloc o) A T; rwa [World.size_alloc] at h
theorem row_fresh1d (w : World) (o : Obj) (A : Array Value) (T : TypeId) : RowAt ((w.alloc o).drew.alloc (Obj.cells A T)) (w.heap.size + 1) A.toList := by have h := row_fresh (w.alloc o).drew A T; rwa [show (w.alloc o).drew.heap.size = w.heap.size + 1 from World.size_alloc _ _] at h
theorem belM_alloc {w w' : World} (h : Below w.heap.size w w') (o : Obj) : Below w.heap.size w (w'.alloc o) := h.alloc h.size o
theorem belM_drew {w w' : World} (h : Below w.heap.size w w') : Below w.heap.size w w'.drew := h.drew
/-- the names of the law, and what each gives -/
def nmM (k : Nat) : ByteArray := [⟨#[97, 100, 100]⟩, ⟨#[109, 105, 110]⟩, ⟨#[109, 97, 120]⟩, ⟨#[109, 101, 97, 110]⟩, ⟨#[109, 117, 108]⟩, ⟨#[115, 117, 98]⟩].getD k ⟨#[]⟩
def vM (k : Nat) (A C : Int) : Int := match k with
  | 0 => addI A C
  | 1 => min A C
  | 2 => max A C
  | 3 => mean2 A C
  | 4 => mulDivI A C 1000
  | _ => subI A C
theorem evM (k : Nat) (hk : k < 6) (A C : Int) (h1 : -1000000000000 ≤ A) (h2 : A ≤ 1000000000000) (h3 : -1000000000000 ≤ C) (h4 : C ≤ 1000000000000) (q ic : Nat) (w : World) (hm : MaxAt w) (hv : RowAt w q [.int .i64 1, .int .i64 A, .int .i64 1, .int .i64 C]) :
    Calls Tryd.prog 23 #[.string (nmM k), .slice none 0 0, .slice (some ⟨q, 0, none⟩) 2 ic] w fun e w' => e = .returned (.tuple #[.agg #[.int .i64 1, .int .i64 (vM k A C)], .int .i64 0]) ∧ Below w.heap.size w w' := by
  have h6 : k = 0 ∨ k = 1 ∨ k = 2 ∨ k = 3 ∨ k = 4 ∨ k = 5 := by omega
  rcases h6 with rfl | rfl | rfl | rfl | rfl | rfl
  · exact ev2_add A C h1 h2 h3 h4 q ic w hm hv
  · exact ev2_min A C h1 h2 h3 h4 q ic w hm hv
  · exact ev2_max A C h1 h2 h3 h4 q ic w hm hv
  · exact ev2_mean A C h1 h2 h3 h4 q ic w hm hv
  · exact ev2_mul A C h1 h2 h3 h4 q ic w hm hv
  · exact ev2_sub A C h1 h2 h3 h4 q ic w hm hv
theorem vM_mono (k : Nat) (hk : k < 6) (h4 : ¬ k = 4) {A D C : Int} (h1 : -1000000000000 ≤ A) (h2 : D ≤ 1000000000000) (h3 : -1000000000000 ≤ C) (h5 : C ≤ 1000000000000) (h : A ≤ D) : vM k A C ≤ vM k D C := by
  have h6 : k = 0 ∨ k = 1 ∨ k = 2 ∨ k = 3 ∨ k = 5 := by omega
  rcases h6 with rfl | rfl | rfl | rfl | rfl
  · exact add_mono h
  · show min A C ≤ min D C; omega
  · show max A C ≤ max D C; omega
  · exact mean_mono h1 h2 h3 h5 h
  · exact sub_mono h
theorem vM_comm (k : Nat) (hk : k < 6) (h5 : ¬ k = 5) (A C : Int) : vM k A C = vM k C A := by
  have h6 : k = 0 ∨ k = 1 ∨ k = 2 ∨ k = 3 ∨ k = 4 := by omega
  rcases h6 with rfl | rfl | rfl | rfl | rfl
  · exact add_comm2 A C
  · show min A C = min C A; omega
  · show max A C = max C A; omega
  · exact mean_comm A C
  · exact mulDivI_comm A C 1000
theorem nmM_mul (k : Nat) (hk : k < 6) : ((nmM k).toList == [109, 117, 108]) = decide (k = 4) := by
  have h6 : k = 0 ∨ k = 1 ∨ k = 2 ∨ k = 3 ∨ k = 4 ∨ k = 5 := by omega
  rcases h6 with rfl | rfl | rfl | rfl | rfl | rfl <;> (rw [toList_eq]; decide)
theorem nmM_sub (k : Nat) (hk : k < 6) : ((nmM k).toList == [115, 117, 98]) = decide (k = 5) := by
  have h6 : k = 0 ∨ k = 1 ∨ k = 2 ∨ k = 3 ∨ k = 4 ∨ k = 5 := by omega
  rcases h6 with rfl | rfl | rfl | rfl | rfl | rfl <;> (rw [toList_eq]; decide)
set_option maxHeartbeats 16000000 in
set_option maxRecDepth 100000 in
theorem monotone_law (a b more : Int) (w : World) (hm : MaxAt w) :
    Calls Tryd.prog 8 #[.int .i64 a, .int .i64 b, .int .i64 more] w fun e w' => e = .returned (.bool true) ∧ Below w.heap.size w w' := by
  have KAW := Lib.hid (awake_yes w hm)
  have HMX := Lib.hid (fun (x : World) (hb : Below w.heap.size w x) => hm.keep hb)
  have ra := clampI_range a
  have rb := clampI_range b
  have rm := clampI_range more
  obtain ⟨A, hA⟩ : ∃ A, A = clampI a := ⟨_, rfl⟩
  obtain ⟨C, hC⟩ : ∃ C, C = clampI b := ⟨_, rfl⟩
  obtain ⟨G, hG⟩ : ∃ C, C = clampI more := ⟨_, rfl⟩
  have ka := fun w => rclamp_any a w
  have kb := fun w => rclamp_any b w
  have km := fun w => rclamp_any more w
  rw [← hA] at ka ra
  rw [← hC] at kb rb
  rw [← hG] at km rm
  have KA := Lib.hid ka
  have KB := Lib.hid kb
  have KM := Lib.hid km
  obtain ⟨a1, a2⟩ := ra
  obtain ⟨b1, b2⟩ := rb
  obtain ⟨m1, m2⟩ := rm
  clear ka kb km hA hC hG hm
  go_enter Tryd.func8, Tryd.ntmps8
  go_wp2_with fail
  refine (KAW.out).mono ?_
  rintro e w1 ⟨rfl, hb⟩
  have HB1 := Lib.hid hb
  clear hb 
  go_wp2_with fail
  refine (KA.out _).mono ?_
  rintro e w' ⟨rfl, rfl⟩
  go_wp2_with fail
  refine (KB.out _).mono ?_
  rintro e w' ⟨rfl, rfl⟩
  go_wp2_with fail
  refine (KM.out _).mono ?_
  rintro e w' ⟨rfl, rfl⟩
  obtain ⟨w2, gL, hW, hg, R, hb, sz⟩ := box1 w1 #[.string ⟨#[97, 100, 100]⟩, .string ⟨#[109, 105, 110]⟩, .string ⟨#[109, 97, 120]⟩, .string ⟨#[109, 101, 97, 110]⟩, .string ⟨#[109, 117, 108]⟩, .string ⟨#[115, 117, 98]⟩] 9
  have HB2 := Lib.hid (HB1.out.trans (hb.mono HB1.out.size))
  have HL_2 := Lib.hid R
  clear R hb sz  HB1
  go_wp2_with fail
  rw [← hW]
  rw [← hg]
  clear hW hg
  obtain ⟨D, hD⟩ : ∃ D, D = max A G := ⟨_, rfl⟩
  have d1 : -1000000000000 ≤ D := by omega
  have d2 : D ≤ 1000000000000 := by omega
  have ad : A ≤ D := by omega
  rw [← hD]
  clear hD
  go_loopw [9] (fun i wr => ∃ k : Nat, k ≤ 6 ∧ i = .int .i64 k ∧ Hid (Below w2.heap.size w2 wr)) (fun i _ => 6 - (intOf i).toNat)
  case atStart => exact ⟨0, Nat.zero_le _, rfl, Lib.hid (Below.refl _ _)⟩
  case round =>
    obtain ⟨k, hk, rfl, HBr⟩ := hrel
    have HB := Lib.hid (HB2.out.trans (HBr.out.mono HB2.out.size))
    by_cases hlt : k < 6
    · have HL := Lib.hid (HL_2.out.keep HBr.out)
      obtain ⟨nb, hnb⟩ : ∃ x, x = gL := ⟨_, rfl⟩
      rw [← hnb] at HL ⊢
      obtain ⟨nm, hnm⟩ : ∃ x, x = nmM k := ⟨_, rfl⟩
      have c0 : wr.cell? ⟨nb, k, none⟩ = some (.string nm) := HL.out.c k _ (by
        rw [hnm]
        have h6 : k = 0 ∨ k = 1 ∨ k = 2 ∨ k = 3 ∨ k = 4 ∨ k = 5 := by omega
        rcases h6 with rfl | rfl | rfl | rfl | rfl | rfl <;> rfl)
      have kk : (k : Int) < 6 := by omega
      have kd : decide (k < 6) = true := decide_eq_true hlt
      obtain ⟨X, hX⟩ : ∃ x, x = vM k A C := ⟨_, rfl⟩
      obtain ⟨Y, hY⟩ : ∃ x, x = vM k D C := ⟨_, rfl⟩
      obtain ⟨Z, hZ⟩ : ∃ x, x = vM k C A := ⟨_, rfl⟩
      have KX := Lib.hid (fun q ic w hm hv => show Calls Tryd.prog 23 #[.string nm, .slice none 0 0, .slice (some ⟨q, 0, none⟩) 2 ic] w fun e w' => e = .returned (.tuple #[.agg #[.int .i64 1, .int .i64 X], .int .i64 0]) ∧ Below w.heap.size w w' by rw [hX, hnm]; exact evM k hlt A C a1 a2 b1 b2 q ic w hm hv)
      have KY := Lib.hid (fun q ic w hm hv => show Calls Tryd.prog 23 #[.string nm, .slice none 0 0, .slice (some ⟨q, 0, none⟩) 2 ic] w fun e w' => e = .returned (.tuple #[.agg #[.int .i64 1, .int .i64 Y], .int .i64 0]) ∧ Below w.heap.size w w' by rw [hY, hnm]; exact evM k hlt D C d1 d2 b1 b2 q ic w hm hv)
      have KZ := Lib.hid (fun q ic w hm hv => show Calls Tryd.prog 23 #[.string nm, .slice none 0 0, .slice (some ⟨q, 0, none⟩) 2 ic] w fun e w' => e = .returned (.tuple #[.agg #[.int .i64 1, .int .i64 Z], .int .i64 0]) ∧ Below w.heap.size w w' by rw [hZ, hnm]; exact evM k hlt C A b1 b2 a1 a2 q ic w hm hv)
      have HXY := Lib.hid (show ¬ k = 4 → X ≤ Y by rw [hX, hY]; exact fun h => vM_mono k hlt h a1 d2 b1 b2 ad)
      have HXZ := Lib.hid (show ¬ k = 5 → X = Z by rw [hX, hZ]; exact fun h => vM_comm k hlt h A C)
      have HM4 := Lib.hid (nmM_mul k hlt)
      have HM5 := Lib.hid (nmM_sub k hlt)
      rw [← hnm] at HM4 HM5
      clear hX hY hZ hnm hnb
      have HBQ := Lib.hid (Below.refl wr.heap.size wr)
      go_wp2_with fail
      have HC := Lib.hid (show M1 wr nb k nm wr from ⟨c0, Below.refl _ _⟩)
      go_cut [10, 11] from 37 to 50 (fun q o wx => ∃ NB : Nat, q = .pointer (some ⟨NB, 0, none⟩) ∧ o = .int .i64 0 ∧ Hid (RowAt wx NB [.int .i64 1, .int .i64 X] ∧ Below wr.heap.size wr wx))
      case first =>
        go_region_held3 (fun w' => w'.cell? ⟨nb, k, none⟩ = some (.string nm) ∧ Below wr.heap.size wr w')
          (first | (with_reducible exact HC.out) | (with_reducible exact HS1.out) | (with_reducible exact HS2.out) | (with_reducible exact HS3.out) | (refine m1_of HC.out ?_; (repeat (first | with_reducible exact (m1_bel HS3.out) | with_reducible exact (m1_bel HS2.out) | with_reducible exact (m1_bel HS1.out) | with_reducible exact Below.refl _ _ | apply belM_drew | apply belM_alloc)); done) | (refine m1_of HC.out (set_below (m1_bel HS3.out) ?_ [.int .i64 1, .int .i64 X]); have sz1 := (m1_bel HS1.out).size; have sz2 := (m1_bel HS2.out).size; have sz3 := (m1_bel HS3.out).size; omega) | (go_keep))
          (first | (go_at_call_of 25 (Value.int IntKind.i64 A); refine (analog_any _ _).mono ?_; rintro e x1 ⟨rfl, hb2⟩; have HS1 : Hid (M1 wr nb k nm x1) := m1_keep HC.out hb2 (by first | assumption | (refine m1_of HC.out ?_; (repeat (first | with_reducible exact (m1_bel HS3.out) | with_reducible exact (m1_bel HS2.out) | with_reducible exact (m1_bel HS1.out) | with_reducible exact Below.refl _ _ | apply belM_drew | apply belM_alloc)))); (first | (with_reducible have nn := rf_kept (A := #[.int .i64 0, .int .i64 0]) hb2) | (with_reducible have nn := rf_kept_drew (A := #[.int .i64 0, .int .i64 0]) hb2) | (have nn := nn.keep hb2) | (have nn := row_keep_drew nn hb2) | skip)) | (go_at_call_of 25 (Value.int IntKind.i64 C); refine (analog_any _ _).mono ?_; rintro e x2 ⟨rfl, hb2⟩; have HS2 : Hid (M1 wr nb k nm x2) := m1_keep HC.out hb2 (by first | assumption | (refine m1_of HC.out ?_; (repeat (first | with_reducible exact (m1_bel HS3.out) | with_reducible exact (m1_bel HS2.out) | with_reducible exact (m1_bel HS1.out) | with_reducible exact Below.refl _ _ | apply belM_drew | apply belM_alloc)))); (first | (with_reducible have nn := rf_kept (A := #[.int .i64 0, .int .i64 0]) hb2) | (with_reducible have nn := rf_kept_drew (A := #[.int .i64 0, .int .i64 0]) hb2) | (have nn := nn.keep hb2) | (have nn := row_keep_drew nn hb2) | skip)) | (go_at_call 23; refine (KX.out _ _ _ ?_ ?_).mono ?_; (refine HMX.out _ (HB.out.trans (Below.mono ?_ HB.out.size)); (repeat (first | with_reducible exact (m1_bel HS3.out) | with_reducible exact (m1_bel HS2.out) | with_reducible exact (m1_bel HS1.out) | with_reducible exact Below.refl _ _ | apply belM_drew | apply belM_alloc))); (repeat (first | with_reducible exact row_fresh _ _ _ | with_reducible exact row_fresh1 _ _ _ _ | with_reducible exact row_fresh1d _ _ _ _ | apply RowAt.drew | apply rowM_alloc)); rintro e x3 ⟨rfl, hb2⟩; have HS3 : Hid (M1 wr nb k nm x3) := m1_keep HC.out hb2 (by first | assumption | (refine m1_of HC.out ?_; (repeat (first | with_reducible exact (m1_bel HS3.out) | with_reducible exact (m1_bel HS2.out) | with_reducible exact (m1_bel HS1.out) | with_reducible exact Below.refl _ _ | apply belM_drew | apply belM_alloc)))); (first | (with_reducible have nn := rf_kept (A := #[.int .i64 0, .int .i64 0]) hb2) | (with_reducible have nn := rf_kept_drew (A := #[.int .i64 0, .int .i64 0]) hb2) | (with_reducible have nn := (rowM_alloc (row_fresh _ #[.int .i64 0, .int .i64 0] _) _).keep hb2) | (with_reducible have nn := (rowM_alloc (row_fresh _ #[.int .i64 0, .int .i64 0] _).drew _).keep hb2) | (with_reducible have nn := (rowM_alloc (row_fresh _ #[.int .i64 0, .int .i64 0] _) _).drew.keep hb2) | (with_reducible have nn := (rowM_alloc (row_fresh _ #[.int .i64 0, .int .i64 0] _).drew _).drew.keep hb2) | (with_reducible have nn := (rowM_alloc nn _).keep hb2) | (with_reducible have nn := (rowM_alloc nn.drew _).keep hb2) | (with_reducible have nn := (rowM_alloc nn _).drew.keep hb2) | (with_reducible have nn := (rowM_alloc nn.drew _).drew.keep hb2) | (with_reducible have nn := nn.keep hb2) | skip); (try rw [World.size_alloc] at nn); (try (have n0 := nn.c 0 _ rfl; have n1 := nn.c 1 _ rfl; have nz := nn.fz))) | (fail))
        all_goals
          rename_i hHeld
          clear hHeld
          go_wp2_with fail
          go_meet
        all_goals first
          | exact ⟨_, rfl, rfl, Lib.hid ⟨row_fresh _ _ _, (m1_bel HS3.out).alloc (m1_bel HS3.out).size _⟩⟩
          | exact ⟨_, rfl, rfl, Lib.hid ⟨(row_fresh _ _ _).drew, ((m1_bel HS3.out).alloc (m1_bel HS3.out).size _).drew⟩⟩
          | (refine ⟨_, rfl, rfl, Lib.hid ⟨nn.setRow [.int .i64 1, .int .i64 X] rfl, set_below (m1_bel HS3.out) ?_ [.int .i64 1, .int .i64 X]⟩⟩; have sz1 := (m1_bel HS1.out).size; have sz2 := (m1_bel HS2.out).size; have sz3 := (m1_bel HS3.out).size; omega)
      case rest =>
        obtain ⟨Nwa, rfl, rfl, hcc⟩ := hcut
        have HRwa := Lib.hid hcc.out.1
        have hb := hcc.out.2
        obtain ⟨wa, hwn⟩ : ∃ v, v = wc := ⟨_, rfl⟩
        rw [← hwn] at HRwa hb ⊢
        have HBQ := Lib.hid (HBQ.out.trans (hb.mono HBQ.out.size))
        have HB := Lib.hid (HB.out.trans (hb.mono HB.out.size))
        have hc1 := (hb.cell (p := ⟨nb, k, none⟩) (World.block_lt_of_cell? _ _ HC.out.1)).trans HC.out.1
        clear hcc hb hwn HC c0
        have c0 := hc1
        clear hc1
        have HC := Lib.hid (show M1 wa nb k nm wa from ⟨c0, Below.refl _ _⟩)
        go_wp2_with fail
        go_cut [12, 13] from 50 to 63 (fun q o wx => ∃ NB : Nat, q = .pointer (some ⟨NB, 0, none⟩) ∧ o = .int .i64 0 ∧ Hid (RowAt wx NB [.int .i64 1, .int .i64 Y] ∧ Below wa.heap.size wa wx))
        case first =>
          go_region_held3 (fun w' => w'.cell? ⟨nb, k, none⟩ = some (.string nm) ∧ Below wa.heap.size wa w')
            (first | (with_reducible exact HC.out) | (with_reducible exact HS1.out) | (with_reducible exact HS2.out) | (with_reducible exact HS3.out) | (refine m1_of HC.out ?_; (repeat (first | with_reducible exact (m1_bel HS3.out) | with_reducible exact (m1_bel HS2.out) | with_reducible exact (m1_bel HS1.out) | with_reducible exact Below.refl _ _ | apply belM_drew | apply belM_alloc)); done) | (refine m1_of HC.out (set_below (m1_bel HS3.out) ?_ [.int .i64 1, .int .i64 Y]); have sz1 := (m1_bel HS1.out).size; have sz2 := (m1_bel HS2.out).size; have sz3 := (m1_bel HS3.out).size; omega) | (go_keep))
            (first | (go_at_call_of 25 (Value.int IntKind.i64 D); refine (analog_any _ _).mono ?_; rintro e x1 ⟨rfl, hb2⟩; have HS1 : Hid (M1 wa nb k nm x1) := m1_keep HC.out hb2 (by first | assumption | (refine m1_of HC.out ?_; (repeat (first | with_reducible exact (m1_bel HS3.out) | with_reducible exact (m1_bel HS2.out) | with_reducible exact (m1_bel HS1.out) | with_reducible exact Below.refl _ _ | apply belM_drew | apply belM_alloc)))); (first | (with_reducible have nn := rf_kept (A := #[.int .i64 0, .int .i64 0]) hb2) | (with_reducible have nn := rf_kept_drew (A := #[.int .i64 0, .int .i64 0]) hb2) | (have nn := nn.keep hb2) | (have nn := row_keep_drew nn hb2) | skip)) | (go_at_call_of 25 (Value.int IntKind.i64 C); refine (analog_any _ _).mono ?_; rintro e x2 ⟨rfl, hb2⟩; have HS2 : Hid (M1 wa nb k nm x2) := m1_keep HC.out hb2 (by first | assumption | (refine m1_of HC.out ?_; (repeat (first | with_reducible exact (m1_bel HS3.out) | with_reducible exact (m1_bel HS2.out) | with_reducible exact (m1_bel HS1.out) | with_reducible exact Below.refl _ _ | apply belM_drew | apply belM_alloc)))); (first | (with_reducible have nn := rf_kept (A := #[.int .i64 0, .int .i64 0]) hb2) | (with_reducible have nn := rf_kept_drew (A := #[.int .i64 0, .int .i64 0]) hb2) | (have nn := nn.keep hb2) | (have nn := row_keep_drew nn hb2) | skip)) | (go_at_call 23; refine (KY.out _ _ _ ?_ ?_).mono ?_; (refine HMX.out _ (HB.out.trans (Below.mono ?_ HB.out.size)); (repeat (first | with_reducible exact (m1_bel HS3.out) | with_reducible exact (m1_bel HS2.out) | with_reducible exact (m1_bel HS1.out) | with_reducible exact Below.refl _ _ | apply belM_drew | apply belM_alloc))); (repeat (first | with_reducible exact row_fresh _ _ _ | with_reducible exact row_fresh1 _ _ _ _ | with_reducible exact row_fresh1d _ _ _ _ | apply RowAt.drew | apply rowM_alloc)); rintro e x3 ⟨rfl, hb2⟩; have HS3 : Hid (M1 wa nb k nm x3) := m1_keep HC.out hb2 (by first | assumption | (refine m1_of HC.out ?_; (repeat (first | with_reducible exact (m1_bel HS3.out) | with_reducible exact (m1_bel HS2.out) | with_reducible exact (m1_bel HS1.out) | with_reducible exact Below.refl _ _ | apply belM_drew | apply belM_alloc)))); (first | (with_reducible have nn := rf_kept (A := #[.int .i64 0, .int .i64 0]) hb2) | (with_reducible have nn := rf_kept_drew (A := #[.int .i64 0, .int .i64 0]) hb2) | (with_reducible have nn := (rowM_alloc (row_fresh _ #[.int .i64 0, .int .i64 0] _) _).keep hb2) | (with_reducible have nn := (rowM_alloc (row_fresh _ #[.int .i64 0, .int .i64 0] _).drew _).keep hb2) | (with_reducible have nn := (rowM_alloc (row_fresh _ #[.int .i64 0, .int .i64 0] _) _).drew.keep hb2) | (with_reducible have nn := (rowM_alloc (row_fresh _ #[.int .i64 0, .int .i64 0] _).drew _).drew.keep hb2) | (with_reducible have nn := (rowM_alloc nn _).keep hb2) | (with_reducible have nn := (rowM_alloc nn.drew _).keep hb2) | (with_reducible have nn := (rowM_alloc nn _).drew.keep hb2) | (with_reducible have nn := (rowM_alloc nn.drew _).drew.keep hb2) | (with_reducible have nn := nn.keep hb2) | skip); (try rw [World.size_alloc] at nn); (try (have n0 := nn.c 0 _ rfl; have n1 := nn.c 1 _ rfl; have nz := nn.fz))) | (fail))
          all_goals
            rename_i hHeld
            clear hHeld
            go_wp2_with fail
            go_meet
          all_goals first
            | exact ⟨_, rfl, rfl, Lib.hid ⟨row_fresh _ _ _, (m1_bel HS3.out).alloc (m1_bel HS3.out).size _⟩⟩
            | exact ⟨_, rfl, rfl, Lib.hid ⟨(row_fresh _ _ _).drew, ((m1_bel HS3.out).alloc (m1_bel HS3.out).size _).drew⟩⟩
            | (refine ⟨_, rfl, rfl, Lib.hid ⟨nn.setRow [.int .i64 1, .int .i64 Y] rfl, set_below (m1_bel HS3.out) ?_ [.int .i64 1, .int .i64 Y]⟩⟩; have sz1 := (m1_bel HS1.out).size; have sz2 := (m1_bel HS2.out).size; have sz3 := (m1_bel HS3.out).size; omega)
        case rest =>
          obtain ⟨Nwb, rfl, rfl, hcc⟩ := hcut
          have HRwb := Lib.hid hcc.out.1
          have hb := hcc.out.2
          obtain ⟨wb, hwn⟩ : ∃ v, v = wc := ⟨_, rfl⟩
          rw [← hwn] at HRwb hb ⊢
          have HBQ := Lib.hid (HBQ.out.trans (hb.mono HBQ.out.size))
          have HB := Lib.hid (HB.out.trans (hb.mono HB.out.size))
          have HRwa := Lib.hid (HRwa.out.keep hb)
          have hc1 := (hb.cell (p := ⟨nb, k, none⟩) (World.block_lt_of_cell? _ _ HC.out.1)).trans HC.out.1
          clear hcc hb hwn HC c0
          have c0 := hc1
          clear hc1
          have HC := Lib.hid (show M1 wb nb k nm wb from ⟨c0, Below.refl _ _⟩)
          go_wp2_with fail
          go_cut [14, 15] from 63 to 76 (fun q o wx => ∃ NB : Nat, q = .pointer (some ⟨NB, 0, none⟩) ∧ o = .int .i64 0 ∧ Hid (RowAt wx NB [.int .i64 1, .int .i64 Z] ∧ Below wb.heap.size wb wx))
          case first =>
            go_region_held3 (fun w' => w'.cell? ⟨nb, k, none⟩ = some (.string nm) ∧ Below wb.heap.size wb w')
              (first | (with_reducible exact HC.out) | (with_reducible exact HS1.out) | (with_reducible exact HS2.out) | (with_reducible exact HS3.out) | (refine m1_of HC.out ?_; (repeat (first | with_reducible exact (m1_bel HS3.out) | with_reducible exact (m1_bel HS2.out) | with_reducible exact (m1_bel HS1.out) | with_reducible exact Below.refl _ _ | apply belM_drew | apply belM_alloc)); done) | (refine m1_of HC.out (set_below (m1_bel HS3.out) ?_ [.int .i64 1, .int .i64 Z]); have sz1 := (m1_bel HS1.out).size; have sz2 := (m1_bel HS2.out).size; have sz3 := (m1_bel HS3.out).size; omega) | (go_keep))
              (first | (go_at_call_of 25 (Value.int IntKind.i64 C); refine (analog_any _ _).mono ?_; rintro e x1 ⟨rfl, hb2⟩; have HS1 : Hid (M1 wb nb k nm x1) := m1_keep HC.out hb2 (by first | assumption | (refine m1_of HC.out ?_; (repeat (first | with_reducible exact (m1_bel HS3.out) | with_reducible exact (m1_bel HS2.out) | with_reducible exact (m1_bel HS1.out) | with_reducible exact Below.refl _ _ | apply belM_drew | apply belM_alloc)))); (first | (with_reducible have nn := rf_kept (A := #[.int .i64 0, .int .i64 0]) hb2) | (with_reducible have nn := rf_kept_drew (A := #[.int .i64 0, .int .i64 0]) hb2) | (have nn := nn.keep hb2) | (have nn := row_keep_drew nn hb2) | skip)) | (go_at_call_of 25 (Value.int IntKind.i64 A); refine (analog_any _ _).mono ?_; rintro e x2 ⟨rfl, hb2⟩; have HS2 : Hid (M1 wb nb k nm x2) := m1_keep HC.out hb2 (by first | assumption | (refine m1_of HC.out ?_; (repeat (first | with_reducible exact (m1_bel HS3.out) | with_reducible exact (m1_bel HS2.out) | with_reducible exact (m1_bel HS1.out) | with_reducible exact Below.refl _ _ | apply belM_drew | apply belM_alloc)))); (first | (with_reducible have nn := rf_kept (A := #[.int .i64 0, .int .i64 0]) hb2) | (with_reducible have nn := rf_kept_drew (A := #[.int .i64 0, .int .i64 0]) hb2) | (have nn := nn.keep hb2) | (have nn := row_keep_drew nn hb2) | skip)) | (go_at_call 23; refine (KZ.out _ _ _ ?_ ?_).mono ?_; (refine HMX.out _ (HB.out.trans (Below.mono ?_ HB.out.size)); (repeat (first | with_reducible exact (m1_bel HS3.out) | with_reducible exact (m1_bel HS2.out) | with_reducible exact (m1_bel HS1.out) | with_reducible exact Below.refl _ _ | apply belM_drew | apply belM_alloc))); (repeat (first | with_reducible exact row_fresh _ _ _ | with_reducible exact row_fresh1 _ _ _ _ | with_reducible exact row_fresh1d _ _ _ _ | apply RowAt.drew | apply rowM_alloc)); rintro e x3 ⟨rfl, hb2⟩; have HS3 : Hid (M1 wb nb k nm x3) := m1_keep HC.out hb2 (by first | assumption | (refine m1_of HC.out ?_; (repeat (first | with_reducible exact (m1_bel HS3.out) | with_reducible exact (m1_bel HS2.out) | with_reducible exact (m1_bel HS1.out) | with_reducible exact Below.refl _ _ | apply belM_drew | apply belM_alloc)))); (first | (with_reducible have nn := rf_kept (A := #[.int .i64 0, .int .i64 0]) hb2) | (with_reducible have nn := rf_kept_drew (A := #[.int .i64 0, .int .i64 0]) hb2) | (with_reducible have nn := (rowM_alloc (row_fresh _ #[.int .i64 0, .int .i64 0] _) _).keep hb2) | (with_reducible have nn := (rowM_alloc (row_fresh _ #[.int .i64 0, .int .i64 0] _).drew _).keep hb2) | (with_reducible have nn := (rowM_alloc (row_fresh _ #[.int .i64 0, .int .i64 0] _) _).drew.keep hb2) | (with_reducible have nn := (rowM_alloc (row_fresh _ #[.int .i64 0, .int .i64 0] _).drew _).drew.keep hb2) | (with_reducible have nn := (rowM_alloc nn _).keep hb2) | (with_reducible have nn := (rowM_alloc nn.drew _).keep hb2) | (with_reducible have nn := (rowM_alloc nn _).drew.keep hb2) | (with_reducible have nn := (rowM_alloc nn.drew _).drew.keep hb2) | (with_reducible have nn := nn.keep hb2) | skip); (try rw [World.size_alloc] at nn); (try (have n0 := nn.c 0 _ rfl; have n1 := nn.c 1 _ rfl; have nz := nn.fz))) | (fail))
            all_goals
              rename_i hHeld
              clear hHeld
              go_wp2_with fail
              go_meet
            all_goals first
              | exact ⟨_, rfl, rfl, Lib.hid ⟨row_fresh _ _ _, (m1_bel HS3.out).alloc (m1_bel HS3.out).size _⟩⟩
              | exact ⟨_, rfl, rfl, Lib.hid ⟨(row_fresh _ _ _).drew, ((m1_bel HS3.out).alloc (m1_bel HS3.out).size _).drew⟩⟩
              | (refine ⟨_, rfl, rfl, Lib.hid ⟨nn.setRow [.int .i64 1, .int .i64 Z] rfl, set_below (m1_bel HS3.out) ?_ [.int .i64 1, .int .i64 Z]⟩⟩; have sz1 := (m1_bel HS1.out).size; have sz2 := (m1_bel HS2.out).size; have sz3 := (m1_bel HS3.out).size; omega)
          case rest =>
            obtain ⟨Nwd, rfl, rfl, hcc⟩ := hcut
            have HRwd := Lib.hid hcc.out.1
            have hb := hcc.out.2
            obtain ⟨wd, hwn⟩ : ∃ v, v = wc := ⟨_, rfl⟩
            rw [← hwn] at HRwd hb ⊢
            have HBQ := Lib.hid (HBQ.out.trans (hb.mono HBQ.out.size))
            have HB := Lib.hid (HB.out.trans (hb.mono HB.out.size))
            have HRwa := Lib.hid (HRwa.out.keep hb)
            have HRwb := Lib.hid (HRwb.out.keep hb)
            have hc1 := (hb.cell (p := ⟨nb, k, none⟩) (World.block_lt_of_cell? _ _ HC.out.1)).trans HC.out.1
            clear hcc hb hwn HC c0
            have c0 := hc1
            clear hc1
            have r_0 := HRwa.out.c 0 _ rfl
            have r_1 := HRwa.out.c 1 _ rfl
            have s_0 := HRwb.out.c 0 _ rfl
            have s_1 := HRwb.out.c 1 _ rfl
            have t_0 := HRwd.out.c 0 _ rfl
            have t_1 := HRwd.out.c 1 _ rfl
            by_cases k4 : k = 4
            · have e4 : (nm.toList == [109, 117, 108]) = true := by rw [HM4.out]; simp [k4]
              have e5 : (nm.toList == [115, 117, 98]) = false := by rw [HM5.out]; simp [k4]
              obtain rfl : Z = X := (HXZ.out (by omega)).symm
              clear k4
              go_wp2_with fail
              go_roundw
              case rel => exact ⟨k + 1, by omega, by go_num, Lib.hid (HBr.out.trans (HBQ.out.mono HBr.out.size))⟩
              case measure => (simp [intOf]) <;> omega
            · have e4 : (nm.toList == [109, 117, 108]) = false := by rw [HM4.out]; simp [k4]
              have ex : decide (Y < X) = false := decide_eq_false (by have := HXY.out k4; omega)
              by_cases k5 : k = 5
              · have e5 : (nm.toList == [115, 117, 98]) = true := by rw [HM5.out]; simp [k5]
                clear k4 k5
                go_wp2_with fail
                go_roundw
                case rel => exact ⟨k + 1, by omega, by go_num, Lib.hid (HBr.out.trans (HBQ.out.mono HBr.out.size))⟩
                case measure => (simp [intOf]) <;> omega
              · have e5 : (nm.toList == [115, 117, 98]) = false := by rw [HM5.out]; simp [k5]
                obtain rfl : Z = X := (HXZ.out k5).symm
                clear k4 k5
                go_wp2_with fail
                go_roundw
                case rel => exact ⟨k + 1, by omega, by go_num, Lib.hid (HBr.out.trans (HBQ.out.mono HBr.out.size))⟩
                case measure => (simp [intOf]) <;> omega
    · obtain rfl : k = 6 := by omega
      have HB100 := Lib.hid HB.out
      obtain ⟨X1, hX1⟩ : ∃ x, x = min (max A (-500)) 500 := ⟨_, rfl⟩
      obtain ⟨X2, hX2⟩ : ∃ x, x = min (max D (-500)) 500 := ⟨_, rfl⟩
      have KX1 := Lib.hid (fun p pc q ic w hm hp hv => show Calls Tryd.prog 23 #[.string ⟨#[108, 105, 109, 105, 116]⟩, .slice (some ⟨p, 0, none⟩) 2 pc, .slice (some ⟨q, 0, none⟩) 1 ic] w fun e w' => e = .returned (.tuple #[.agg #[.int .i64 1, .int .i64 X1], .int .i64 0]) ∧ Below w.heap.size w w' by rw [hX1]; exact ev1_limit A (-500) 500 a1 a2 (by decide) (by decide) (by decide) p pc q ic w hm hp hv)
      have KX2 := Lib.hid (fun p pc q ic w hm hp hv => show Calls Tryd.prog 23 #[.string ⟨#[108, 105, 109, 105, 116]⟩, .slice (some ⟨p, 0, none⟩) 2 pc, .slice (some ⟨q, 0, none⟩) 1 ic] w fun e w' => e = .returned (.tuple #[.agg #[.int .i64 1, .int .i64 X2], .int .i64 0]) ∧ Below w.heap.size w w' by rw [hX2]; exact ev1_limit D (-500) 500 d1 d2 (by decide) (by decide) (by decide) p pc q ic w hm hp hv)
      have hle : decide (X1 ≤ X2) = true := decide_eq_true (by omega)
      clear hX1 hX2
      obtain ⟨w101, gP, hW, hg, R, hb, sz⟩ := box1 wr #[.int .i64 (-500), .int .i64 500] 2
      have HB101 := Lib.hid (HB100.out.trans (hb.mono HB100.out.size))
      have HP_101 := Lib.hid R
      clear R hb sz  HB100
      go_wp2_with fail
      rw [← hW]
      rw [← hg]
      clear hW hg
      refine (analog_any A _).mono ?_
      rintro e w102 ⟨rfl, hb⟩
      have HP_102 := Lib.hid (HP_101.out.keep hb)
      have HB102 := Lib.hid (HB101.out.trans (hb.mono HB101.out.size))
      clear hb HP_101 HB101
      obtain ⟨w103, gU, hW, hg, R, hb, sz⟩ := box1 w102 #[.int .i64 1, .int .i64 A] 51
      have HP_103 := Lib.hid (HP_102.out.keep hb)
      have HB103 := Lib.hid (HB102.out.trans (hb.mono HB102.out.size))
      have HU_103 := Lib.hid R
      clear R hb sz HP_102 HB102
      go_wp2_with fail
      rw [← hW]
      rw [← hg]
      clear hW hg
      refine (KX1.out gP _ gU _ _ (HMX.out _ HB103.out) HP_103.out (row_ins1 HU_103.out rfl (by decide))).mono ?_
      rintro e w104 ⟨rfl, hb⟩
      have HP_104 := Lib.hid (HP_103.out.keep hb)
      have HU_104 := Lib.hid (HU_103.out.keep hb)
      have HB104 := Lib.hid (HB103.out.trans (hb.mono HB103.out.size))
      clear hb HP_103 HU_103 HB103
      obtain ⟨w105, gX, hW, hg, R, hb, sz⟩ := box1 w104 #[.int .i64 1, .int .i64 X1] 51
      have HP_105 := Lib.hid (HP_104.out.keep hb)
      have HU_105 := Lib.hid (HU_104.out.keep hb)
      have HB105 := Lib.hid (HB104.out.trans (hb.mono HB104.out.size))
      have HX_105 := Lib.hid R
      clear R hb sz HP_104 HU_104 HB104
      go_upto_region 16 with fail
      rw [← hW]
      rw [← hg]
      clear hW hg
      obtain ⟨w106, gR, hW, hg, R, hb, sz⟩ := box1 w105 #[.int .i64 (-500), .int .i64 500] 2
      have HP_106 := Lib.hid (HP_105.out.keep hb)
      have HU_106 := Lib.hid (HU_105.out.keep hb)
      have HX_106 := Lib.hid (HX_105.out.keep hb)
      have HB106 := Lib.hid (HB105.out.trans (hb.mono HB105.out.size))
      have HR_106 := Lib.hid R
      clear R hb sz HP_105 HU_105 HX_105 HB105
      go_wp2_with fail
      rw [← hW]
      rw [← hg]
      clear hW hg
      refine (analog_any D _).mono ?_
      rintro e w107 ⟨rfl, hb⟩
      have HP_107 := Lib.hid (HP_106.out.keep hb)
      have HU_107 := Lib.hid (HU_106.out.keep hb)
      have HX_107 := Lib.hid (HX_106.out.keep hb)
      have HR_107 := Lib.hid (HR_106.out.keep hb)
      have HB107 := Lib.hid (HB106.out.trans (hb.mono HB106.out.size))
      clear hb HP_106 HU_106 HX_106 HR_106 HB106
      obtain ⟨w108, gW, hW, hg, R, hb, sz⟩ := box1 w107 #[.int .i64 1, .int .i64 D] 51
      have HP_108 := Lib.hid (HP_107.out.keep hb)
      have HU_108 := Lib.hid (HU_107.out.keep hb)
      have HX_108 := Lib.hid (HX_107.out.keep hb)
      have HR_108 := Lib.hid (HR_107.out.keep hb)
      have HB108 := Lib.hid (HB107.out.trans (hb.mono HB107.out.size))
      have HW_108 := Lib.hid R
      clear R hb sz HP_107 HU_107 HX_107 HR_107 HB107
      go_wp2_with fail
      rw [← hW]
      rw [← hg]
      clear hW hg
      refine (KX2.out gR _ gW _ _ (HMX.out _ HB108.out) HR_108.out (row_ins1 HW_108.out rfl (by decide))).mono ?_
      rintro e w109 ⟨rfl, hb⟩
      have HP_109 := Lib.hid (HP_108.out.keep hb)
      have HU_109 := Lib.hid (HU_108.out.keep hb)
      have HX_109 := Lib.hid (HX_108.out.keep hb)
      have HR_109 := Lib.hid (HR_108.out.keep hb)
      have HW_109 := Lib.hid (HW_108.out.keep hb)
      have HB109 := Lib.hid (HB108.out.trans (hb.mono HB108.out.size))
      clear hb HP_108 HU_108 HX_108 HR_108 HW_108 HB108
      obtain ⟨w110, gY, hW, hg, R, hb, sz⟩ := box1 w109 #[.int .i64 1, .int .i64 X2] 51
      have HP_110 := Lib.hid (HP_109.out.keep hb)
      have HU_110 := Lib.hid (HU_109.out.keep hb)
      have HX_110 := Lib.hid (HX_109.out.keep hb)
      have HR_110 := Lib.hid (HR_109.out.keep hb)
      have HW_110 := Lib.hid (HW_109.out.keep hb)
      have HB110 := Lib.hid (HB109.out.trans (hb.mono HB109.out.size))
      have HY_110 := Lib.hid R
      clear R hb sz HP_109 HU_109 HX_109 HR_109 HW_109 HB109
      go_upto_region 17 with fail
      rw [← hW]
      rw [← hg]
      clear hW hg
      have x_0 := HX_110.out.c 0 _ rfl
      have x_1 := HX_110.out.c 1 _ rfl
      have y_0 := HY_110.out.c 0 _ rfl
      have y_1 := HY_110.out.c 1 _ rfl
      go_wp2_with fail
      go_ret
      exact ⟨rfl, HB110.out⟩
end Go.Proofs.YtaobbedajgkmiaaDoor
