/- Contracts of cmp.Or at two texts and of units.Print. -/
import Derived.Test.YtlahoohgbfjciaaGreatDoorVb
import Derived.Deep.RegionHeld3
namespace Go.Proofs.YtlahoohgbfjciaaGreatDoor
open Go.RowKit Go.Shelf

def orB (A : ByteArray) : ByteArray := if A.data.toList = [] then ⟨#[111, 110, 101]⟩ else A
set_option maxHeartbeats 1000000 in
theorem or_two (g cap : Nat) (A : ByteArray) (w : World) (h0 : w.cell? ⟨g, 0, none⟩ = some (.string A)) (h1 : w.cell? ⟨g, 1, none⟩ = some (.string ⟨#[111, 110, 101]⟩)) :
    Calls Tryz.prog 40 #[.slice (some ⟨g, 0, none⟩) 2 cap] w fun e w' => e = .returned (.string (orB A)) ∧ w = w' := by
  by_cases h : A.data.toList = []
  · have HO := Lib.hid (show orB A = ⟨#[111, 110, 101]⟩ from if_pos h)
    have t : (A.toList == []) = true := by rw [toList_eq, h]; rfl
    have t2 : A.toList = [] := by rw [toList_eq, h]
    clear h
    go_enter Tryz.func40, Tryz.ntmps40
    go_wp2_with fail
    go_loop [8] (fun i => i = .int .i64 0 ∨ i = .int .i64 1) (fun i => 2 - (intOf i).toNat)
    case atStart => exact .inl rfl
    case round =>
      rcases hrel with rfl | rfl
      · go_wp2_with fail
        go_round
        case rel => exact .inr rfl
        case measure => simp [intOf]
      · go_wp2_with fail
        go_ret
        exact ⟨by rw [HO.out]; rfl, rfl⟩
  · have HO := Lib.hid (show orB A = A from if_neg h)
    have t : (A.toList == []) = false := by rw [toList_eq, beq_eq_false_iff_ne]; exact h
    have t2 : ¬ A.toList = [] := by rw [toList_eq]; exact h
    clear h
    go_enter Tryz.func40, Tryz.ntmps40
    go_wp2_with fail
    go_loop [8] (fun i => i = .int .i64 0) (fun i => 2 - (intOf i).toNat)
    case atStart => rfl
    case round =>
      subst hrel
      go_wp2_with fail
      go_ret
      exact ⟨by rw [HO.out]; rfl, rfl⟩
set_option maxHeartbeats 1000000 in
theorem print_bad (p0 p1 p2 p3 pn pd po : Int) (w : World) (HV : Hid (∀ w, Calls Tryz.prog 7 #[.agg #[.int .i64 p0, .int .i64 p1, .int .i64 p2, .int .i64 p3, .int .i64 pn, .int .i64 pd, .int .i64 po]] w fun e w' => e = .returned (.bool false) ∧ Below w.heap.size w w')) :
    Calls Tryz.prog 21 #[.agg #[.int .i64 p0, .int .i64 p1, .int .i64 p2, .int .i64 p3, .int .i64 pn, .int .i64 pd, .int .i64 po]] w fun e w' => e = .returned (.tuple #[.string ⟨#[]⟩, .int .i64 1]) ∧ Below w.heap.size w w' := by
  go_enter Tryz.func21, Tryz.ntmps21
  go_wp2_with fail
  obtain ⟨W, R, hW, hR, hwR, R1, B1⟩ := box_unit w p0 p1 p2 p3 pn pd po
  rw [← hW]
  try rw [← hR]
  have HR0 := Lib.hid R1
  have HB0 := Lib.hid B1
  clear hW hR R1 B1
  refine (HV.out _).mono ?_
  rintro e w1 ⟨rfl, hb⟩
  have HR1 := Lib.hid (HR0.out.keep hb)
  have HB1 := Lib.hid (HB0.out.trans (hb.mono HB0.out.size))
  clear hb
  go_wp2_with fail
  go_ret2
  exact ⟨rfl, HB1.out⟩

set_option maxHeartbeats 1000000 in
theorem print_named (S : ByteArray) (p0 p1 p2 p3 pn pd po : Int) (w : World) (HV : Hid (∀ w, Calls Tryz.prog 7 #[.agg #[.int .i64 p0, .int .i64 p1, .int .i64 p2, .int .i64 p3, .int .i64 pn, .int .i64 pd, .int .i64 po]] w fun e w' => e = .returned (.bool true) ∧ Below w.heap.size w w')) (HN : Hid (∀ w, Calls Tryz.prog 38 #[.agg #[.int .i64 p0, .int .i64 p1, .int .i64 p2, .int .i64 p3, .int .i64 pn, .int .i64 pd, .int .i64 po]] w fun e w' => e = .returned (.string S) ∧ Below w.heap.size w w')) (hs : (S.toList == []) = false) :
    Calls Tryz.prog 21 #[.agg #[.int .i64 p0, .int .i64 p1, .int .i64 p2, .int .i64 p3, .int .i64 pn, .int .i64 pd, .int .i64 po]] w fun e w' => e = .returned (.tuple #[.string S, .int .i64 0]) ∧ Below w.heap.size w w' := by
  go_enter Tryz.func21, Tryz.ntmps21
  go_wp2_with fail
  obtain ⟨W, R, hW, hR, hwR, R1, B1⟩ := box_unit w p0 p1 p2 p3 pn pd po
  rw [← hW]
  try rw [← hR]
  have HR0 := Lib.hid R1
  have HB0 := Lib.hid B1
  clear hW hR R1 B1
  refine (HV.out _).mono ?_
  rintro e w1 ⟨rfl, hb⟩
  have HR1 := Lib.hid (HR0.out.keep hb)
  have HB1 := Lib.hid (HB0.out.trans (hb.mono HB0.out.size))
  clear hb
  obtain ⟨r0, r1, r2, r3, r4, r5, r6, rz⟩ := HR1.out
  go_wp2_with fail
  refine (HN.out _).mono ?_
  clear r0 r1 r2 r3 r4 r5 r6 rz
  rintro e w2 ⟨rfl, hb⟩
  have HR2 := Lib.hid (HR1.out.keep hb)
  have HB2 := Lib.hid (HB1.out.trans (hb.mono HB1.out.size))
  clear hb
  go_wp2_with fail
  go_ret2
  exact ⟨rfl, HB2.out⟩

structure UB (w : World) (R : Nat) (p0 p1 p2 p3 pn pd po : Int) (w' : World) : Prop where
  u : UnitAt w' R p0 p1 p2 p3 pn pd po
  b : Below w.heap.size w w'
section
variable {w w' w2 : World} {R : Nat} {p0 p1 p2 p3 pn pd po : Int}
abbrev PD (w : World) (R : Nat) (p0 p1 p2 p3 pn pd po : Int) (w' : World) : Prop := w'.cell? ⟨R, 0, none⟩ = some (.int .i64 p0) ∧ w'.cell? ⟨R, 1, none⟩ = some (.int .i64 p1) ∧ w'.cell? ⟨R, 2, none⟩ = some (.int .i64 p2) ∧ w'.cell? ⟨R, 3, none⟩ = some (.int .i64 p3) ∧ w'.cell? ⟨R, 4, none⟩ = some (.int .i64 pn) ∧ w'.cell? ⟨R, 5, none⟩ = some (.int .i64 pd) ∧ w'.cell? ⟨R, 6, none⟩ = some (.int .i64 po) ∧ UB w R p0 p1 p2 p3 pn pd po w'
theorem PD.ub (c : PD w R p0 p1 p2 p3 pn pd po w') : UB w R p0 p1 p2 p3 pn pd po w' := c.2.2.2.2.2.2.2
theorem pd_of (c : UB w R p0 p1 p2 p3 pn pd po w') : PD w R p0 p1 p2 p3 pn pd po w' := ⟨c.u.c0, c.u.c1, c.u.c2, c.u.c3, c.u.c4, c.u.c5, c.u.c6, c⟩
theorem pd_keep (hb : Below w'.heap.size w' w2) (c : PD w R p0 p1 p2 p3 pn pd po w') : PD w R p0 p1 p2 p3 pn pd po w2 := pd_of ⟨c.ub.u.keep hb, c.ub.b.trans (hb.mono c.ub.b.size)⟩
theorem pd_alloc (o : Obj) (c : PD w R p0 p1 p2 p3 pn pd po w') : PD w R p0 p1 p2 p3 pn pd po (w'.alloc o) := pd_keep ((Below.refl _ _).alloc (Nat.le_refl _) o) c
theorem pd_drew (c : PD w R p0 p1 p2 p3 pn pd po w') : PD w R p0 p1 p2 p3 pn pd po w'.drew := pd_of ⟨c.ub.u.drew, c.ub.b.drew⟩
end
set_option maxRecDepth 100000 in
set_option maxHeartbeats 4000000 in
theorem print_one (X A B : ByteArray) (p0 p1 p2 p3 pn pd po : Int) (w : World) (HGu : Hid (Gu w)) (HV : Hid (∀ w, Calls Tryz.prog 7 #[.agg #[.int .i64 p0, .int .i64 p1, .int .i64 p2, .int .i64 p3, .int .i64 pn, .int .i64 pd, .int .i64 po]] w fun e w' => e = .returned (.bool true) ∧ Below w.heap.size w w')) (HN : Hid (∀ w, Calls Tryz.prog 38 #[.agg #[.int .i64 p0, .int .i64 p1, .int .i64 p2, .int .i64 p3, .int .i64 pn, .int .i64 pd, .int .i64 po]] w fun e w' => e = .returned (.string ⟨#[]⟩) ∧ Below w.heap.size w w')) (HS : Hid (∀ w, Gu w → Calls Tryz.prog 39 #[.agg #[.int .i64 p0, .int .i64 p1, .int .i64 p2, .int .i64 p3, .int .i64 pn, .int .i64 pd, .int .i64 po]] w fun e w' => e = .returned (.string X) ∧ Below w.heap.size w w')) (HP : Hid (∀ w, Gu w → Calls Tryz.prog 41 #[.agg #[.int .i64 p0, .int .i64 p1, .int .i64 p2, .int .i64 p3, .int .i64 pn, .int .i64 pd, .int .i64 po], .int .i64 1] w fun e w' => e = .returned (.string A) ∧ Below w.heap.size w w')) (HQ : Hid (∀ w, Gu w → Calls Tryz.prog 41 #[.agg #[.int .i64 p0, .int .i64 p1, .int .i64 p2, .int .i64 p3, .int .i64 pn, .int .i64 pd, .int .i64 po], .int .i64 (-1)] w fun e w' => e = .returned (.string B) ∧ Below w.heap.size w w')) (g1 : ¬ 9223372036854775807 < X.size + (orB A).size) (hz : (B.toList == []) = true) :
    Calls Tryz.prog 21 #[.agg #[.int .i64 p0, .int .i64 p1, .int .i64 p2, .int .i64 p3, .int .i64 pn, .int .i64 pd, .int .i64 po]] w fun e w' => e = .returned (.tuple #[.string (X ++ orB A), .int .i64 0]) ∧ Below w.heap.size w w' := by
  go_enter Tryz.func21, Tryz.ntmps21
  go_wp2_with fail
  obtain ⟨W, R, hW, hR, hwR, R1, B1⟩ := box_unit w p0 p1 p2 p3 pn pd po
  rw [← hW]
  try rw [← hR]
  have HR0 := Lib.hid R1
  have HB0 := Lib.hid B1
  clear hW hR R1 B1
  refine (HV.out _).mono ?_
  rintro e w1 ⟨rfl, hb⟩
  have HR1 := Lib.hid (HR0.out.keep hb)
  have HB1 := Lib.hid (HB0.out.trans (hb.mono HB0.out.size))
  clear hb
  obtain ⟨r0, r1, r2, r3, r4, r5, r6, rz⟩ := HR1.out
  go_wp2_with fail
  refine (HN.out _).mono ?_
  clear r0 r1 r2 r3 r4 r5 r6 rz
  rintro e w2 ⟨rfl, hb⟩
  have HR2 := Lib.hid (HR1.out.keep hb)
  have HB2 := Lib.hid (HB1.out.trans (hb.mono HB1.out.size))
  clear hb
  have HD := Lib.hid (pd_of ⟨HR2.out, HB2.out⟩)
  have HDD := Lib.hid (pd_drew (pd_of ⟨HR2.out, HB2.out⟩))
  unfold PD at HD HDD
  clear HR0 HB0 HR1 HB1
  go_wp2_with fail
  go_region_held3 (fun w' => w'.cell? ⟨R, 0, none⟩ = some (.int .i64 p0) ∧ w'.cell? ⟨R, 1, none⟩ = some (.int .i64 p1) ∧ w'.cell? ⟨R, 2, none⟩ = some (.int .i64 p2) ∧ w'.cell? ⟨R, 3, none⟩ = some (.int .i64 p3) ∧ w'.cell? ⟨R, 4, none⟩ = some (.int .i64 pn) ∧ w'.cell? ⟨R, 5, none⟩ = some (.int .i64 pd) ∧ w'.cell? ⟨R, 6, none⟩ = some (.int .i64 po) ∧ UB w R p0 p1 p2 p3 pn pd po w')
    (first | (with_reducible exact HD.out) | (with_reducible exact HDD.out) | (with_reducible exact pd_keep hb2 (by assumption)) | (with_reducible exact pd_alloc _ (by assumption)) | (with_reducible exact pd_drew (by assumption)) | go_keep)
    (first | (go_at_call 39; refine (HS.out _ (HGu.out.below (HB2.out))).mono ?_; rintro e x1 ⟨rfl, hb2⟩; have HS1 : Hid (PD w R p0 p1 p2 p3 pn pd po x1) := pd_keep hb2 (by assumption)) | (go_at_call 39; refine (HS.out _ (HGu.out.below (HB2.out.drew))).mono ?_; rintro e x1 ⟨rfl, hb2⟩; have HS1 : Hid (PD w R p0 p1 p2 p3 pn pd po x1) := pd_keep hb2 (by assumption)) | (go_at_call 41; refine (HP.out _ (HGu.out.below HS1.out.ub.b)).mono ?_; rintro e x2 ⟨rfl, hb2⟩; have HS2 : Hid (PD w R p0 p1 p2 p3 pn pd po x2) := pd_keep hb2 (by assumption)) | (go_at_call 40; refine (or_two _ 2 A _ (World.cell?_alloc_new _ _ _ _) (World.cell?_alloc_new _ _ _ _)).mono ?_; rintro e x3 ⟨rfl, rfl⟩))
  rename_i hHeld
  have HU := Lib.hid hHeld.2.2.2.2.2.2.2
  clear hHeld HD HDD
  obtain ⟨r0, r1, r2, r3, r4, r5, r6, rz⟩ := HU.out.u
  go_wp2_with fail
  refine (HQ.out _ (HGu.out.below HU.out.b)).mono ?_
  rintro e w9 ⟨rfl, hb⟩
  have HB9 := Lib.hid (HU.out.b.trans (hb.mono HU.out.b.size))
  clear hb r0 r1 r2 r3 r4 r5 r6 rz
  go_wp2_with fail
  go_ret2
  exact ⟨rfl, HB9.out⟩

set_option maxRecDepth 100000 in
set_option maxHeartbeats 4000000 in
theorem print_two (X A B : ByteArray) (p0 p1 p2 p3 pn pd po : Int) (w : World) (HGu : Hid (Gu w)) (HV : Hid (∀ w, Calls Tryz.prog 7 #[.agg #[.int .i64 p0, .int .i64 p1, .int .i64 p2, .int .i64 p3, .int .i64 pn, .int .i64 pd, .int .i64 po]] w fun e w' => e = .returned (.bool true) ∧ Below w.heap.size w w')) (HN : Hid (∀ w, Calls Tryz.prog 38 #[.agg #[.int .i64 p0, .int .i64 p1, .int .i64 p2, .int .i64 p3, .int .i64 pn, .int .i64 pd, .int .i64 po]] w fun e w' => e = .returned (.string ⟨#[]⟩) ∧ Below w.heap.size w w')) (HS : Hid (∀ w, Gu w → Calls Tryz.prog 39 #[.agg #[.int .i64 p0, .int .i64 p1, .int .i64 p2, .int .i64 p3, .int .i64 pn, .int .i64 pd, .int .i64 po]] w fun e w' => e = .returned (.string X) ∧ Below w.heap.size w w')) (HP : Hid (∀ w, Gu w → Calls Tryz.prog 41 #[.agg #[.int .i64 p0, .int .i64 p1, .int .i64 p2, .int .i64 p3, .int .i64 pn, .int .i64 pd, .int .i64 po], .int .i64 1] w fun e w' => e = .returned (.string A) ∧ Below w.heap.size w w')) (HQ : Hid (∀ w, Gu w → Calls Tryz.prog 41 #[.agg #[.int .i64 p0, .int .i64 p1, .int .i64 p2, .int .i64 p3, .int .i64 pn, .int .i64 pd, .int .i64 po], .int .i64 (-1)] w fun e w' => e = .returned (.string B) ∧ Below w.heap.size w w')) (g1 : ¬ 9223372036854775807 < X.size + (orB A).size) (hz : (B.toList == []) = false) (g2 : ¬ 9223372036854775807 < 1 + B.size) (g3 : ¬ 9223372036854775807 < X.size + (orB A).size + (1 + B.size)) :
    Calls Tryz.prog 21 #[.agg #[.int .i64 p0, .int .i64 p1, .int .i64 p2, .int .i64 p3, .int .i64 pn, .int .i64 pd, .int .i64 po]] w fun e w' => e = .returned (.tuple #[.string (X ++ orB A ++ (⟨#[47]⟩ ++ B)), .int .i64 0]) ∧ Below w.heap.size w w' := by
  go_enter Tryz.func21, Tryz.ntmps21
  go_wp2_with fail
  obtain ⟨W, R, hW, hR, hwR, R1, B1⟩ := box_unit w p0 p1 p2 p3 pn pd po
  rw [← hW]
  try rw [← hR]
  have HR0 := Lib.hid R1
  have HB0 := Lib.hid B1
  clear hW hR R1 B1
  refine (HV.out _).mono ?_
  rintro e w1 ⟨rfl, hb⟩
  have HR1 := Lib.hid (HR0.out.keep hb)
  have HB1 := Lib.hid (HB0.out.trans (hb.mono HB0.out.size))
  clear hb
  obtain ⟨r0, r1, r2, r3, r4, r5, r6, rz⟩ := HR1.out
  go_wp2_with fail
  refine (HN.out _).mono ?_
  clear r0 r1 r2 r3 r4 r5 r6 rz
  rintro e w2 ⟨rfl, hb⟩
  have HR2 := Lib.hid (HR1.out.keep hb)
  have HB2 := Lib.hid (HB1.out.trans (hb.mono HB1.out.size))
  clear hb
  have HD := Lib.hid (pd_of ⟨HR2.out, HB2.out⟩)
  have HDD := Lib.hid (pd_drew (pd_of ⟨HR2.out, HB2.out⟩))
  unfold PD at HD HDD
  clear HR0 HB0 HR1 HB1
  go_wp2_with fail
  go_region_held3 (fun w' => w'.cell? ⟨R, 0, none⟩ = some (.int .i64 p0) ∧ w'.cell? ⟨R, 1, none⟩ = some (.int .i64 p1) ∧ w'.cell? ⟨R, 2, none⟩ = some (.int .i64 p2) ∧ w'.cell? ⟨R, 3, none⟩ = some (.int .i64 p3) ∧ w'.cell? ⟨R, 4, none⟩ = some (.int .i64 pn) ∧ w'.cell? ⟨R, 5, none⟩ = some (.int .i64 pd) ∧ w'.cell? ⟨R, 6, none⟩ = some (.int .i64 po) ∧ UB w R p0 p1 p2 p3 pn pd po w')
    (first | (with_reducible exact HD.out) | (with_reducible exact HDD.out) | (with_reducible exact pd_keep hb2 (by assumption)) | (with_reducible exact pd_alloc _ (by assumption)) | (with_reducible exact pd_drew (by assumption)) | go_keep)
    (first | (go_at_call 39; refine (HS.out _ (HGu.out.below (HB2.out))).mono ?_; rintro e x1 ⟨rfl, hb2⟩; have HS1 : Hid (PD w R p0 p1 p2 p3 pn pd po x1) := pd_keep hb2 (by assumption)) | (go_at_call 39; refine (HS.out _ (HGu.out.below (HB2.out.drew))).mono ?_; rintro e x1 ⟨rfl, hb2⟩; have HS1 : Hid (PD w R p0 p1 p2 p3 pn pd po x1) := pd_keep hb2 (by assumption)) | (go_at_call 41; refine (HP.out _ (HGu.out.below HS1.out.ub.b)).mono ?_; rintro e x2 ⟨rfl, hb2⟩; have HS2 : Hid (PD w R p0 p1 p2 p3 pn pd po x2) := pd_keep hb2 (by assumption)) | (go_at_call 40; refine (or_two _ 2 A _ (World.cell?_alloc_new _ _ _ _) (World.cell?_alloc_new _ _ _ _)).mono ?_; rintro e x3 ⟨rfl, rfl⟩))
  rename_i hHeld
  have HU := Lib.hid hHeld.2.2.2.2.2.2.2
  clear hHeld HD HDD
  obtain ⟨r0, r1, r2, r3, r4, r5, r6, rz⟩ := HU.out.u
  go_wp2_with fail
  refine (HQ.out _ (HGu.out.below HU.out.b)).mono ?_
  rintro e w9 ⟨rfl, hb⟩
  have HB9 := Lib.hid (HU.out.b.trans (hb.mono HU.out.b.size))
  clear hb r0 r1 r2 r3 r4 r5 r6 rz
  go_wp2_with fail
  go_ret2
  exact ⟨rfl, HB9.out⟩

/-- the canonical text of a valid unit -/
def orL (l : List UInt8) : List UInt8 := if l = [] then [111, 110, 101] else l
def printL (u : UnitD) : List UInt8 :=
  if (nameOfL u).data.toList = [] then scaleTextL u ++ orL (powersL u 1) ++ (if powersL u (-1) = [] then [] else 47 :: powersL u (-1)) else (nameOfL u).data.toList
def printR (u : UnitD) : List UInt8 × Int := if validB u = true then (printL u, 0) else ([], 1)
theorem powers_len (u : UnitD) (sg : Int) (hs : sg = 1 ∨ sg = -1) (h : validB u = true) : (powersL u sg).length ≤ 92 := by
  obtain ⟨p0, p1, p2, p3, pn, pd, po⟩ := u
  obtain ⟨e0, e1, e2, e3, e4, e5, e6, e7⟩ := exp_ranges h
  have f0 := facB_len (sg * p0) 109 (by rcases hs with rfl | rfl <;> omega) (by rcases hs with rfl | rfl <;> omega)
  have f1 := facB_len (sg * p1) 103 (by rcases hs with rfl | rfl <;> omega) (by rcases hs with rfl | rfl <;> omega)
  have f2 := facB_len (sg * p2) 115 (by rcases hs with rfl | rfl <;> omega) (by rcases hs with rfl | rfl <;> omega)
  have f3 := facB_len (sg * p3) 75 (by rcases hs with rfl | rfl <;> omega) (by rcases hs with rfl | rfl <;> omega)
  have hj := join_len ((facsB ⟨p0, p1, p2, p3, pn, pd, po⟩ sg 4).map (·.data.toList)) 22 (fun x hx => by
    obtain ⟨y, hy, rfl⟩ := List.mem_map.1 hx
    have hy : y ∈ facB (sg * p0) 109 ++ facB (sg * p1) 103 ++ facB (sg * p2) 115 ++ facB (sg * p3) 75 := hy
    simp only [List.mem_append] at hy
    rcases hy with ((hy | hy) | hy) | hy
    · exact f0.2 y hy
    · exact f1.2 y hy
    · exact f2.2 y hy
    · exact f3.2 y hy)
  have hl : ((facsB ⟨p0, p1, p2, p3, pn, pd, po⟩ sg 4).map (·.data.toList)).length ≤ 4 := by
    rw [List.length_map, show facsB ⟨p0, p1, p2, p3, pn, pd, po⟩ sg 4 = facB (sg * p0) 109 ++ facB (sg * p1) 103 ++ facB (sg * p2) 115 ++ facB (sg * p3) 75 from rfl]
    simp only [List.length_append]
    omega
  unfold powersL
  omega
theorem orB_mk (l : List UInt8) : orB ⟨l.toArray⟩ = ⟨(orL l).toArray⟩ := by
  unfold orB orL
  by_cases h : l = []
  · rw [if_pos h, if_pos h]
  · rw [if_neg h, if_neg h]
theorem print_any (u : UnitD) (w : World) (hg : Gu w) :
    Calls Tryz.prog 21 #[unitV u] w fun e w' => e = .returned (.tuple #[.string ⟨(printR u).1.toArray⟩, .int .i64 (printR u).2]) ∧ Below w.heap.size w w' := by
  have hV := fun w => valid_any u.e0 u.e1 u.e2 u.e3 u.n u.d u.o w
  have hV : ∀ w, Calls Tryz.prog 7 #[unitV u] w fun e w' => e = .returned (.bool (validB u)) ∧ Below w.heap.size w w' := hV
  unfold printR
  by_cases h : validB u = true
  · rw [if_pos h]
    rw [h] at hV
    unfold printL
    have hN := fun w => nameOf_any u w
    obtain ⟨bn, bd⟩ := scale_ranges (u0 := u.e0) (u1 := u.e1) (u2 := u.e2) (u3 := u.e3) (un := u.n) (ud := u.d) (uo := u.o) h
    have hS := fun w hg => scaleText_any u w hg bn bd
    have hP := fun w hg => powers_any u 1 w hg (.inl rfl) h
    have hQ := fun w hg => powers_any u (-1) w hg (.inr rfl) h
    have l1 := powers_len u 1 (.inl rfl) h
    have l2 := powers_len u (-1) (.inr rfl) h
    have l3 : (scaleTextL u).length ≤ 100 := by
      have i1 := Lib.itoa_length_le u.n (by omega) (by omega)
      have i2 := Lib.itoa_length_le u.d (by omega) (by omega)
      unfold scaleTextL
      by_cases hd : u.d = 1
      · simp only [hd, if_true, List.append_nil]
        split
        · simp
        · simp; omega
      · simp only [hd, if_false]
        split
        · simp
        · simp; omega
    have l4 : (orL (powersL u 1)).length ≤ 100 := by
      unfold orL
      split
      · simp
      · omega
    have s1 := size_mk (scaleTextL u)
    have s2 := size_mk (orL (powersL u 1))
    have s3 := size_mk (powersL u (-1))
    by_cases hn : (nameOfL u).data.toList = []
    · rw [if_pos hn]
      have hN0 : nameOfL u = ⟨#[]⟩ := bytes_inj.1 hn
      rw [hN0] at hN
      by_cases hq : powersL u (-1) = []
      · rw [if_pos hq, List.append_nil]
        have := print_one _ _ _ u.e0 u.e1 u.e2 u.e3 u.n u.d u.o w (Lib.hid hg) (Lib.hid hV) (Lib.hid hN) (Lib.hid hS) (Lib.hid hP) (Lib.hid hQ) (by rw [orB_mk]; omega) (by rw [toList_eq]; simp [hq])
        rwa [orB_mk, mk_append] at this
      · rw [if_neg hq]
        have := print_two _ _ _ u.e0 u.e1 u.e2 u.e3 u.n u.d u.o w (Lib.hid hg) (Lib.hid hV) (Lib.hid hN) (Lib.hid hS) (Lib.hid hP) (Lib.hid hQ) (by rw [orB_mk]; omega) (by rw [toList_eq]; simp [hq]) (by omega) (by rw [orB_mk]; omega)
        rwa [orB_mk, mk_append, show (⟨#[47]⟩ : ByteArray) = ⟨([47] : List UInt8).toArray⟩ from rfl, mk_append, mk_append] at this
    · rw [if_neg hn]
      exact print_named _ u.e0 u.e1 u.e2 u.e3 u.n u.d u.o w (Lib.hid hV) (Lib.hid hN) (by rw [toList_eq, beq_eq_false_iff_ne]; exact hn)
  · rw [if_neg h]
    have hf : validB u = false := by simpa using h
    rw [hf] at hV
    exact print_bad u.e0 u.e1 u.e2 u.e3 u.n u.d u.o w (Lib.hid hV)
end Go.Proofs.YtlahoohgbfjciaaGreatDoor
