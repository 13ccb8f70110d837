/- The contract of units.readText. -/
import Derived.Test.YtlahoohgbfjciaaGreatDoorVd
import Derived.Test.YtlahoohgbfjciaaGreatDoorUy
namespace Go.Proofs.YtlahoohgbfjciaaGreatDoor
open Go.RowKit Go.Shelf

/-- what readText leaves -/
def RTpost (base : Nat) (r : Option (UnitD × List FactD)) (e : Ending) (w' : World) : Prop :=
  match r with
  | some (u, fs) => ∃ v, e = .returned (.tuple #[unitV u, v, .bool true]) ∧ w'.ownsRow base 88 10 v fs.length (rowsC fs)
  | none => ∃ u v, e = .returned (.tuple #[unitV u, v, .bool false])
theorem rtpost_no {base : Nat} {e : Ending} {w' : World} (u : UnitD) (v : Value) (h : e = .returned (.tuple #[unitV u, v, .bool false])) : RTpost base none e w' := ⟨u, v, h⟩
theorem rtpost_yes {base : Nat} {e : Ending} {w' : World} {u : UnitD} {fs : List FactD} (v : Value) (h : e = .returned (.tuple #[unitV u, v, .bool true])) (h2 : w'.ownsRow base 88 10 v fs.length (rowsC fs)) : RTpost base (some (u, fs)) e w' := ⟨v, h, h2⟩
set_option maxHeartbeats 1000000 in
theorem rt_long (s : ByteArray) (w : World) (hs : 40 < s.size) :
    Calls Tryz.prog 34 #[.string s] w fun e w' => Below w.heap.size w w' ∧ RTpost (w.heap.size + 1) none e w' := by
  go_enter Tryz.func34, Tryz.ntmps34
  have t0 : decide ((40 : Int) < (s.size : Int)) = true := decide_eq_true (by omega)
  have hR1 := unit_fresh w 0 0 0 0 0 0 0
  have HB := Lib.hid ((Below.refl w.heap.size w).alloc (Nat.le_refl _) (Obj.cells #[.int .i64 0, .int .i64 0, .int .i64 0, .int .i64 0, .int .i64 0, .int .i64 0, .int .i64 0] 28))
  have HR := Lib.hid hR1
  obtain ⟨W, hW⟩ : ∃ x, x = w.alloc (Obj.cells #[.int .i64 0, .int .i64 0, .int .i64 0, .int .i64 0, .int .i64 0, .int .i64 0, .int .i64 0] 28) := ⟨_, rfl⟩
  obtain ⟨R, hR⟩ : ∃ x, x = w.heap.size := ⟨_, rfl⟩
  have hwR : w.heap.size ≤ R := by omega
  rw [← hW] at HB
  rw [← hW, ← hR] at HR
  go_upto_region 2 with fail
  rw [← hW, ← hR]
  clear hW hR hR1 hs
  obtain ⟨r0, r1, r2, r3, r4, r5, r6, rz⟩ := HR.out
  go_wp2_with fail
  have hs := (HR.out).set 0 0 0 0 0 0 0
  have y0 : (((((((W.setCell ⟨R, 0, none⟩ (.int .i64 0)).setCell ⟨R, 1, none⟩ (.int .i64 0)).setCell ⟨R, 2, none⟩ (.int .i64 0)).setCell ⟨R, 3, none⟩ (.int .i64 0)).setCell ⟨R, 4, none⟩ (.int .i64 0)).setCell ⟨R, 5, none⟩ (.int .i64 0)).setCell ⟨R, 6, none⟩ (.int .i64 0)).cell? ⟨R, 0, none⟩ = some (.int .i64 0) := hs.c0
  have y1 : (((((((W.setCell ⟨R, 0, none⟩ (.int .i64 0)).setCell ⟨R, 1, none⟩ (.int .i64 0)).setCell ⟨R, 2, none⟩ (.int .i64 0)).setCell ⟨R, 3, none⟩ (.int .i64 0)).setCell ⟨R, 4, none⟩ (.int .i64 0)).setCell ⟨R, 5, none⟩ (.int .i64 0)).setCell ⟨R, 6, none⟩ (.int .i64 0)).cell? ⟨R, 1, none⟩ = some (.int .i64 0) := hs.c1
  have y2 : (((((((W.setCell ⟨R, 0, none⟩ (.int .i64 0)).setCell ⟨R, 1, none⟩ (.int .i64 0)).setCell ⟨R, 2, none⟩ (.int .i64 0)).setCell ⟨R, 3, none⟩ (.int .i64 0)).setCell ⟨R, 4, none⟩ (.int .i64 0)).setCell ⟨R, 5, none⟩ (.int .i64 0)).setCell ⟨R, 6, none⟩ (.int .i64 0)).cell? ⟨R, 2, none⟩ = some (.int .i64 0) := hs.c2
  have y3 : (((((((W.setCell ⟨R, 0, none⟩ (.int .i64 0)).setCell ⟨R, 1, none⟩ (.int .i64 0)).setCell ⟨R, 2, none⟩ (.int .i64 0)).setCell ⟨R, 3, none⟩ (.int .i64 0)).setCell ⟨R, 4, none⟩ (.int .i64 0)).setCell ⟨R, 5, none⟩ (.int .i64 0)).setCell ⟨R, 6, none⟩ (.int .i64 0)).cell? ⟨R, 3, none⟩ = some (.int .i64 0) := hs.c3
  have y4 : (((((((W.setCell ⟨R, 0, none⟩ (.int .i64 0)).setCell ⟨R, 1, none⟩ (.int .i64 0)).setCell ⟨R, 2, none⟩ (.int .i64 0)).setCell ⟨R, 3, none⟩ (.int .i64 0)).setCell ⟨R, 4, none⟩ (.int .i64 0)).setCell ⟨R, 5, none⟩ (.int .i64 0)).setCell ⟨R, 6, none⟩ (.int .i64 0)).cell? ⟨R, 4, none⟩ = some (.int .i64 0) := hs.c4
  have y5 : (((((((W.setCell ⟨R, 0, none⟩ (.int .i64 0)).setCell ⟨R, 1, none⟩ (.int .i64 0)).setCell ⟨R, 2, none⟩ (.int .i64 0)).setCell ⟨R, 3, none⟩ (.int .i64 0)).setCell ⟨R, 4, none⟩ (.int .i64 0)).setCell ⟨R, 5, none⟩ (.int .i64 0)).setCell ⟨R, 6, none⟩ (.int .i64 0)).cell? ⟨R, 5, none⟩ = some (.int .i64 0) := hs.c5
  have y6 : (((((((W.setCell ⟨R, 0, none⟩ (.int .i64 0)).setCell ⟨R, 1, none⟩ (.int .i64 0)).setCell ⟨R, 2, none⟩ (.int .i64 0)).setCell ⟨R, 3, none⟩ (.int .i64 0)).setCell ⟨R, 4, none⟩ (.int .i64 0)).setCell ⟨R, 5, none⟩ (.int .i64 0)).setCell ⟨R, 6, none⟩ (.int .i64 0)).cell? ⟨R, 6, none⟩ = some (.int .i64 0) := hs.c6
  (try simp only [Exit.inBlock, Exit.then])
  refine bodyPost_ret (by simp [results, Tryz.results34, go_sem, y0, y1, y2, y3, y4, y5, y6]; try rfl) rfl ?_
  exact ⟨setU_below HB.out hwR 0 0 0 0 0 0 0, rtpost_no zeroU (.slice none 0 0) rfl⟩

set_option maxHeartbeats 1000000 in
theorem rt_scale (s Rs : ByteArray) (c0 c1 c2 c3 cn cd co : Int) (w : World) (hs : s.size ≤ 40) (hg : Gu w) (HC : Hid (∀ w, Gu w → Calls Tryz.prog 45 #[.string s] w fun e w' => e = .returned (.tuple #[.agg #[.int .i64 c0, .int .i64 c1, .int .i64 c2, .int .i64 c3, .int .i64 cn, .int .i64 cd, .int .i64 co], .string Rs, .bool false]) ∧ Below w.heap.size w w')) :
    Calls Tryz.prog 34 #[.string s] w fun e w' => Below w.heap.size w w' ∧ RTpost (w.heap.size + 1) none e w' := by
  have t0 : decide ((40 : Int) < (s.size : Int)) = false := decide_eq_false (by omega)
  clear hs
  go_enter Tryz.func34, Tryz.ntmps34
  go_wp2_with fail
  obtain ⟨W, R, hW, hR, hwR, R1, B1⟩ := one_unit w
  try rw [← hW]
  try rw [← hR]
  have g1 := hg.below ((Below.refl w.heap.size w).alloc (Nat.le_refl _) (Obj.cells #[.int .i64 0, .int .i64 0, .int .i64 0, .int .i64 0, .int .i64 0, .int .i64 0, .int .i64 0] 28))
  rw [← hW] at g1
  have HR0 := Lib.hid R1
  have HB0 := Lib.hid B1
  have HG0 := Lib.hid g1
  have HGw := Lib.hid hg
  have HRe := Lib.hid hR
  clear hW hR R1 B1 g1 hg
  refine (HC.out _ HG0.out).mono ?_
  rintro e w1 ⟨rfl, hb⟩
  have HR1 := Lib.hid (HR0.out.keep hb)
  have HB1 := Lib.hid (HB0.out.trans (hb.mono HB0.out.size))
  have HG1 := Lib.hid (HG0.out.below hb)
  clear hb
  obtain ⟨r0, r1, r2, r3, r4, r5, r6, rz⟩ := HR1.out
  go_upto_region 4 with fail
  have hu2 := HR1.out.set c0 c1 c2 c3 cn cd co
  have hb2 := setU_below HB1.out hwR c0 c1 c2 c3 cn cd co
  obtain ⟨w2, hw2⟩ : ∃ x, x = (((((((w1.setCell ⟨R, 0, none⟩ (.int .i64 c0)).setCell ⟨R, 1, none⟩ (.int .i64 c1)).setCell ⟨R, 2, none⟩ (.int .i64 c2)).setCell ⟨R, 3, none⟩ (.int .i64 c3)).setCell ⟨R, 4, none⟩ (.int .i64 cn)).setCell ⟨R, 5, none⟩ (.int .i64 cd)).setCell ⟨R, 6, none⟩ (.int .i64 co)) := ⟨_, rfl⟩
  have hu2 : UnitAt w2 R c0 c1 c2 c3 cn cd co := by rw [hw2]; exact hu2
  have hb2 : Below w.heap.size w w2 := by rw [hw2]; exact hb2
  rw [← hw2]
  have HR2 := Lib.hid hu2
  have HB2 := Lib.hid hb2
  clear hw2 hu2 hb2 r0 r1 r2 r3 r4 r5 r6 rz
  obtain ⟨r0, r1, r2, r3, r4, r5, r6, rz⟩ := HR2.out
  go_wp2_with fail
  have hs := (HR2.out).set 0 0 0 0 0 0 0
  have y0 : (((((((w2.setCell ⟨R, 0, none⟩ (.int .i64 0)).setCell ⟨R, 1, none⟩ (.int .i64 0)).setCell ⟨R, 2, none⟩ (.int .i64 0)).setCell ⟨R, 3, none⟩ (.int .i64 0)).setCell ⟨R, 4, none⟩ (.int .i64 0)).setCell ⟨R, 5, none⟩ (.int .i64 0)).setCell ⟨R, 6, none⟩ (.int .i64 0)).cell? ⟨R, 0, none⟩ = some (.int .i64 0) := hs.c0
  have y1 : (((((((w2.setCell ⟨R, 0, none⟩ (.int .i64 0)).setCell ⟨R, 1, none⟩ (.int .i64 0)).setCell ⟨R, 2, none⟩ (.int .i64 0)).setCell ⟨R, 3, none⟩ (.int .i64 0)).setCell ⟨R, 4, none⟩ (.int .i64 0)).setCell ⟨R, 5, none⟩ (.int .i64 0)).setCell ⟨R, 6, none⟩ (.int .i64 0)).cell? ⟨R, 1, none⟩ = some (.int .i64 0) := hs.c1
  have y2 : (((((((w2.setCell ⟨R, 0, none⟩ (.int .i64 0)).setCell ⟨R, 1, none⟩ (.int .i64 0)).setCell ⟨R, 2, none⟩ (.int .i64 0)).setCell ⟨R, 3, none⟩ (.int .i64 0)).setCell ⟨R, 4, none⟩ (.int .i64 0)).setCell ⟨R, 5, none⟩ (.int .i64 0)).setCell ⟨R, 6, none⟩ (.int .i64 0)).cell? ⟨R, 2, none⟩ = some (.int .i64 0) := hs.c2
  have y3 : (((((((w2.setCell ⟨R, 0, none⟩ (.int .i64 0)).setCell ⟨R, 1, none⟩ (.int .i64 0)).setCell ⟨R, 2, none⟩ (.int .i64 0)).setCell ⟨R, 3, none⟩ (.int .i64 0)).setCell ⟨R, 4, none⟩ (.int .i64 0)).setCell ⟨R, 5, none⟩ (.int .i64 0)).setCell ⟨R, 6, none⟩ (.int .i64 0)).cell? ⟨R, 3, none⟩ = some (.int .i64 0) := hs.c3
  have y4 : (((((((w2.setCell ⟨R, 0, none⟩ (.int .i64 0)).setCell ⟨R, 1, none⟩ (.int .i64 0)).setCell ⟨R, 2, none⟩ (.int .i64 0)).setCell ⟨R, 3, none⟩ (.int .i64 0)).setCell ⟨R, 4, none⟩ (.int .i64 0)).setCell ⟨R, 5, none⟩ (.int .i64 0)).setCell ⟨R, 6, none⟩ (.int .i64 0)).cell? ⟨R, 4, none⟩ = some (.int .i64 0) := hs.c4
  have y5 : (((((((w2.setCell ⟨R, 0, none⟩ (.int .i64 0)).setCell ⟨R, 1, none⟩ (.int .i64 0)).setCell ⟨R, 2, none⟩ (.int .i64 0)).setCell ⟨R, 3, none⟩ (.int .i64 0)).setCell ⟨R, 4, none⟩ (.int .i64 0)).setCell ⟨R, 5, none⟩ (.int .i64 0)).setCell ⟨R, 6, none⟩ (.int .i64 0)).cell? ⟨R, 5, none⟩ = some (.int .i64 0) := hs.c5
  have y6 : (((((((w2.setCell ⟨R, 0, none⟩ (.int .i64 0)).setCell ⟨R, 1, none⟩ (.int .i64 0)).setCell ⟨R, 2, none⟩ (.int .i64 0)).setCell ⟨R, 3, none⟩ (.int .i64 0)).setCell ⟨R, 4, none⟩ (.int .i64 0)).setCell ⟨R, 5, none⟩ (.int .i64 0)).setCell ⟨R, 6, none⟩ (.int .i64 0)).cell? ⟨R, 6, none⟩ = some (.int .i64 0) := hs.c6
  (try simp only [Exit.inBlock, Exit.then])
  refine bodyPost_ret (by simp [results, Tryz.results34, go_sem, y0, y1, y2, y3, y4, y5, y6]; try rfl) rfl ?_
  exact ⟨setU_below HB2.out hwR 0 0 0 0 0 0 0, rtpost_no zeroU (.slice none 0 0) rfl⟩

theorem UnitAt.keepB {w w' : World} {b B : Nat} {c0 c1 c2 c3 cn cd co : Int} (t : UnitAt w b c0 c1 c2 c3 cn cd co) (hb : Below B w w') (h : b < B) : UnitAt w' b c0 c1 c2 c3 cn cd co :=
  ⟨(hb.cell (p := ⟨b, 0, none⟩) h).trans t.c0, (hb.cell (p := ⟨b, 1, none⟩) h).trans t.c1, (hb.cell (p := ⟨b, 2, none⟩) h).trans t.c2, (hb.cell (p := ⟨b, 3, none⟩) h).trans t.c3, (hb.cell (p := ⟨b, 4, none⟩) h).trans t.c4, (hb.cell (p := ⟨b, 5, none⟩) h).trans t.c5, (hb.cell (p := ⟨b, 6, none⟩) h).trans t.c6, fun o => (hb.frozen (p := ⟨b, o, none⟩) h).trans (t.fz o)⟩
theorem own_set1 {w : World} {base : Nat} {e : TypeId} {sz n R k : Nat} {v x : Value} {xs : List Value} (h : w.ownsRow base e sz v n xs) (hR : R < base) : (w.setCell ⟨R, k, none⟩ x).ownsRow base e sz v n xs :=
  h.kept (grown_set w ⟨R, k, none⟩ x) (by
    cases hv : v.ownBlock with
    | none => exact .inl rfl
    | some j => exact .inr (fun e => by have := (h.lt j hv).1; injection e with e; have e : j = R := e; omega))
theorem own_setU {w : World} {base : Nat} {e : TypeId} {sz n R : Nat} {v : Value} {xs : List Value} (h : w.ownsRow base e sz v n xs) (hR : R < base) (c0 c1 c2 c3 cn cd co : Int) : (setU w R c0 c1 c2 c3 cn cd co).ownsRow base e sz v n xs :=
  own_set1 (own_set1 (own_set1 (own_set1 (own_set1 (own_set1 (own_set1 h hR) hR) hR) hR) hR) hR) hR
theorem rows_append (a b : List FactD) : rowsC (a ++ b) = rowsC a ++ rowsC b := by unfold rowsC; rw [List.flatMap_append]
def rtC (u : UnitD) (dv : Bool) (rA rB : Option (List FactD)) : Option (UnitD × List FactD) := match rA with
  | none => none
  | some fs => if dv = true then (match rB with | none => none | some gs => some (u, fs ++ gs)) else some (u, fs)
set_option maxRecDepth 100000 in
set_option maxHeartbeats 4000000 in
theorem rt_rest (s Rs A Bs : ByteArray) (dv : Bool) (c0 c1 c2 c3 cn cd co : Int) (rA rB : Option (List FactD)) (w : World) (hs : s.size ≤ 40) (hg : Gu w) (hlen : ∀ fs, rA = some fs → fs.length ≤ 500) (HC : Hid (∀ w, Gu w → Calls Tryz.prog 45 #[.string s] w fun e w' => e = .returned (.tuple #[.agg #[.int .i64 c0, .int .i64 c1, .int .i64 c2, .int .i64 c3, .int .i64 cn, .int .i64 cd, .int .i64 co], .string Rs, .bool true]) ∧ Below w.heap.size w w'))
    (HCut : Hid (∀ w, Calls Tryz.prog 46 #[.string Rs, .string ⟨#[47]⟩] w fun e w' => e = .returned (.tuple #[.string A, .string Bs, .bool dv]) ∧ Below w.heap.size w w'))
    (HF1 : Hid (∀ w R, R + 1 ≤ w.heap.size → Calls Tryz.prog 47 #[.slice none 0 0, .string A, .bool false] w fun e w' => Below (R + 1) w w' ∧ RFpost (R + 1) 0 [] rA e w'))
    (HF2 : Hid (∀ w R, R + 1 ≤ w.heap.size → ∀ v n xs, w.ownsRow (R + 1) 88 10 v n xs → n ≤ 500 → Calls Tryz.prog 47 #[v, .string Bs, .bool true] w fun e w' => Below (R + 1) w w' ∧ RFpost (R + 1) n xs rB e w')) :
    Calls Tryz.prog 34 #[.string s] w fun e w' => Below w.heap.size w w' ∧ RTpost (w.heap.size + 1) (rtC ⟨c0, c1, c2, c3, cn, cd, co⟩ dv rA rB) e w' := by
  have t0 : decide ((40 : Int) < (s.size : Int)) = false := decide_eq_false (by omega)
  clear hs
  go_enter Tryz.func34, Tryz.ntmps34
  go_wp2_with fail
  obtain ⟨W, R, hW, hR, hwR, R1, B1⟩ := one_unit w
  try rw [← hW]
  try rw [← hR]
  have g1 := hg.below ((Below.refl w.heap.size w).alloc (Nat.le_refl _) (Obj.cells #[.int .i64 0, .int .i64 0, .int .i64 0, .int .i64 0, .int .i64 0, .int .i64 0, .int .i64 0] 28))
  rw [← hW] at g1
  have HR0 := Lib.hid R1
  have HB0 := Lib.hid B1
  have HG0 := Lib.hid g1
  have HGw := Lib.hid hg
  have HRe := Lib.hid hR
  clear hW hR R1 B1 g1 hg
  refine (HC.out _ HG0.out).mono ?_
  rintro e w1 ⟨rfl, hb⟩
  have HR1 := Lib.hid (HR0.out.keep hb)
  have HB1 := Lib.hid (HB0.out.trans (hb.mono HB0.out.size))
  have HG1 := Lib.hid (HG0.out.below hb)
  clear hb
  obtain ⟨r0, r1, r2, r3, r4, r5, r6, rz⟩ := HR1.out
  go_upto_region 4 with fail
  have hu2 := HR1.out.set c0 c1 c2 c3 cn cd co
  have hb2 := setU_below HB1.out hwR c0 c1 c2 c3 cn cd co
  obtain ⟨w2, hw2⟩ : ∃ x, x = (((((((w1.setCell ⟨R, 0, none⟩ (.int .i64 c0)).setCell ⟨R, 1, none⟩ (.int .i64 c1)).setCell ⟨R, 2, none⟩ (.int .i64 c2)).setCell ⟨R, 3, none⟩ (.int .i64 c3)).setCell ⟨R, 4, none⟩ (.int .i64 cn)).setCell ⟨R, 5, none⟩ (.int .i64 cd)).setCell ⟨R, 6, none⟩ (.int .i64 co)) := ⟨_, rfl⟩
  have hu2 : UnitAt w2 R c0 c1 c2 c3 cn cd co := by rw [hw2]; exact hu2
  have hb2 : Below w.heap.size w w2 := by rw [hw2]; exact hb2
  rw [← hw2]
  have HR2 := Lib.hid hu2
  have HB2 := Lib.hid hb2
  clear hw2 hu2 hb2 r0 r1 r2 r3 r4 r5 r6 rz
  go_wp2_with fail
  refine (HCut.out _).mono ?_
  rintro e w3 ⟨rfl, hb⟩
  have HR3 := Lib.hid (HR2.out.keep hb)
  have HB3 := Lib.hid (HB2.out.trans (hb.mono HB2.out.size))
  have HS3 := Lib.hid (show R + 1 ≤ w3.heap.size from HR3.out.lt)
  clear hb HR0 HB0 HR1 HB1 HG0 HG1
  go_wp2_with fail
  refine (HF1.out _ R HS3.out).mono ?_
  rintro e w4 ⟨hb, hp⟩
  have HR4 := Lib.hid (HR3.out.keepB hb (Nat.lt_succ_self R))
  have HB4 := Lib.hid (HB3.out.trans (hb.mono (Nat.le_succ_of_le hwR)))
  have HS4 := Lib.hid (Nat.le_trans HS3.out hb.size)
  clear hb
  obtain ⟨v', ok, rfl, hok⟩ := hp
  rcases hok with ⟨fs, hfs, rfl, how⟩ | ⟨hn, rfl, rfl⟩
  · have HO4 := Lib.hid (show w4.ownsRow (R + 1) 88 10 v' fs.length (rowsC fs) by have := how; rwa [Nat.zero_add, List.nil_append] at this)
    have HL := Lib.hid (hlen fs hfs)
    have HFS := Lib.hid hfs
    clear how hfs hlen
    cases dv
    · obtain ⟨r0, r1, r2, r3, r4, r5, r6, rz⟩ := HR4.out
      go_wp2_with fail
      have hs := (HR4.out).set c0 c1 c2 c3 cn cd co
      have y0 : (((((((w4.setCell ⟨R, 0, none⟩ (.int .i64 c0)).setCell ⟨R, 1, none⟩ (.int .i64 c1)).setCell ⟨R, 2, none⟩ (.int .i64 c2)).setCell ⟨R, 3, none⟩ (.int .i64 c3)).setCell ⟨R, 4, none⟩ (.int .i64 cn)).setCell ⟨R, 5, none⟩ (.int .i64 cd)).setCell ⟨R, 6, none⟩ (.int .i64 co)).cell? ⟨R, 0, none⟩ = some (.int .i64 c0) := hs.c0
      have y1 : (((((((w4.setCell ⟨R, 0, none⟩ (.int .i64 c0)).setCell ⟨R, 1, none⟩ (.int .i64 c1)).setCell ⟨R, 2, none⟩ (.int .i64 c2)).setCell ⟨R, 3, none⟩ (.int .i64 c3)).setCell ⟨R, 4, none⟩ (.int .i64 cn)).setCell ⟨R, 5, none⟩ (.int .i64 cd)).setCell ⟨R, 6, none⟩ (.int .i64 co)).cell? ⟨R, 1, none⟩ = some (.int .i64 c1) := hs.c1
      have y2 : (((((((w4.setCell ⟨R, 0, none⟩ (.int .i64 c0)).setCell ⟨R, 1, none⟩ (.int .i64 c1)).setCell ⟨R, 2, none⟩ (.int .i64 c2)).setCell ⟨R, 3, none⟩ (.int .i64 c3)).setCell ⟨R, 4, none⟩ (.int .i64 cn)).setCell ⟨R, 5, none⟩ (.int .i64 cd)).setCell ⟨R, 6, none⟩ (.int .i64 co)).cell? ⟨R, 2, none⟩ = some (.int .i64 c2) := hs.c2
      have y3 : (((((((w4.setCell ⟨R, 0, none⟩ (.int .i64 c0)).setCell ⟨R, 1, none⟩ (.int .i64 c1)).setCell ⟨R, 2, none⟩ (.int .i64 c2)).setCell ⟨R, 3, none⟩ (.int .i64 c3)).setCell ⟨R, 4, none⟩ (.int .i64 cn)).setCell ⟨R, 5, none⟩ (.int .i64 cd)).setCell ⟨R, 6, none⟩ (.int .i64 co)).cell? ⟨R, 3, none⟩ = some (.int .i64 c3) := hs.c3
      have y4 : (((((((w4.setCell ⟨R, 0, none⟩ (.int .i64 c0)).setCell ⟨R, 1, none⟩ (.int .i64 c1)).setCell ⟨R, 2, none⟩ (.int .i64 c2)).setCell ⟨R, 3, none⟩ (.int .i64 c3)).setCell ⟨R, 4, none⟩ (.int .i64 cn)).setCell ⟨R, 5, none⟩ (.int .i64 cd)).setCell ⟨R, 6, none⟩ (.int .i64 co)).cell? ⟨R, 4, none⟩ = some (.int .i64 cn) := hs.c4
      have y5 : (((((((w4.setCell ⟨R, 0, none⟩ (.int .i64 c0)).setCell ⟨R, 1, none⟩ (.int .i64 c1)).setCell ⟨R, 2, none⟩ (.int .i64 c2)).setCell ⟨R, 3, none⟩ (.int .i64 c3)).setCell ⟨R, 4, none⟩ (.int .i64 cn)).setCell ⟨R, 5, none⟩ (.int .i64 cd)).setCell ⟨R, 6, none⟩ (.int .i64 co)).cell? ⟨R, 5, none⟩ = some (.int .i64 cd) := hs.c5
      have y6 : (((((((w4.setCell ⟨R, 0, none⟩ (.int .i64 c0)).setCell ⟨R, 1, none⟩ (.int .i64 c1)).setCell ⟨R, 2, none⟩ (.int .i64 c2)).setCell ⟨R, 3, none⟩ (.int .i64 c3)).setCell ⟨R, 4, none⟩ (.int .i64 cn)).setCell ⟨R, 5, none⟩ (.int .i64 cd)).setCell ⟨R, 6, none⟩ (.int .i64 co)).cell? ⟨R, 6, none⟩ = some (.int .i64 co) := hs.c6
      (try simp only [Exit.inBlock, Exit.then])
      refine bodyPost_ret (by simp [results, Tryz.results34, go_sem, y0, y1, y2, y3, y4, y5, y6]; try rfl) rfl ?_
      refine ⟨setU_below HB4.out hwR c0 c1 c2 c3 cn cd co, ?_⟩
      rw [← HRe.out]
      rw [HFS.out]
      exact rtpost_yes v' rfl (own_setU HO4.out (Nat.lt_succ_self R) c0 c1 c2 c3 cn cd co)
    · go_wp2_with fail
      refine (HF2.out _ R HS4.out _ _ _ HO4.out HL.out).mono ?_
      rintro e w5 ⟨hb, hp⟩
      have HR5 := Lib.hid (HR4.out.keepB hb (Nat.lt_succ_self R))
      have HB5 := Lib.hid (HB4.out.trans (hb.mono (Nat.le_succ_of_le hwR)))
      have HS5 := Lib.hid (Nat.le_trans HS4.out hb.size)
      clear hb
      obtain ⟨v2, ok, rfl, hok⟩ := hp
      rcases hok with ⟨gs, hgs, rfl, how⟩ | ⟨hn, rfl, rfl⟩
      · have HO5 := Lib.hid (show w5.ownsRow (R + 1) 88 10 v2 (fs ++ gs).length (rowsC (fs ++ gs)) by rw [List.length_append, rows_append]; exact how)
        have HGS := Lib.hid hgs
        clear how hgs
        obtain ⟨r0, r1, r2, r3, r4, r5, r6, rz⟩ := HR5.out
        go_wp2_with fail
        have hs := (HR5.out).set c0 c1 c2 c3 cn cd co
        have y0 : (((((((w5.setCell ⟨R, 0, none⟩ (.int .i64 c0)).setCell ⟨R, 1, none⟩ (.int .i64 c1)).setCell ⟨R, 2, none⟩ (.int .i64 c2)).setCell ⟨R, 3, none⟩ (.int .i64 c3)).setCell ⟨R, 4, none⟩ (.int .i64 cn)).setCell ⟨R, 5, none⟩ (.int .i64 cd)).setCell ⟨R, 6, none⟩ (.int .i64 co)).cell? ⟨R, 0, none⟩ = some (.int .i64 c0) := hs.c0
        have y1 : (((((((w5.setCell ⟨R, 0, none⟩ (.int .i64 c0)).setCell ⟨R, 1, none⟩ (.int .i64 c1)).setCell ⟨R, 2, none⟩ (.int .i64 c2)).setCell ⟨R, 3, none⟩ (.int .i64 c3)).setCell ⟨R, 4, none⟩ (.int .i64 cn)).setCell ⟨R, 5, none⟩ (.int .i64 cd)).setCell ⟨R, 6, none⟩ (.int .i64 co)).cell? ⟨R, 1, none⟩ = some (.int .i64 c1) := hs.c1
        have y2 : (((((((w5.setCell ⟨R, 0, none⟩ (.int .i64 c0)).setCell ⟨R, 1, none⟩ (.int .i64 c1)).setCell ⟨R, 2, none⟩ (.int .i64 c2)).setCell ⟨R, 3, none⟩ (.int .i64 c3)).setCell ⟨R, 4, none⟩ (.int .i64 cn)).setCell ⟨R, 5, none⟩ (.int .i64 cd)).setCell ⟨R, 6, none⟩ (.int .i64 co)).cell? ⟨R, 2, none⟩ = some (.int .i64 c2) := hs.c2
        have y3 : (((((((w5.setCell ⟨R, 0, none⟩ (.int .i64 c0)).setCell ⟨R, 1, none⟩ (.int .i64 c1)).setCell ⟨R, 2, none⟩ (.int .i64 c2)).setCell ⟨R, 3, none⟩ (.int .i64 c3)).setCell ⟨R, 4, none⟩ (.int .i64 cn)).setCell ⟨R, 5, none⟩ (.int .i64 cd)).setCell ⟨R, 6, none⟩ (.int .i64 co)).cell? ⟨R, 3, none⟩ = some (.int .i64 c3) := hs.c3
        have y4 : (((((((w5.setCell ⟨R, 0, none⟩ (.int .i64 c0)).setCell ⟨R, 1, none⟩ (.int .i64 c1)).setCell ⟨R, 2, none⟩ (.int .i64 c2)).setCell ⟨R, 3, none⟩ (.int .i64 c3)).setCell ⟨R, 4, none⟩ (.int .i64 cn)).setCell ⟨R, 5, none⟩ (.int .i64 cd)).setCell ⟨R, 6, none⟩ (.int .i64 co)).cell? ⟨R, 4, none⟩ = some (.int .i64 cn) := hs.c4
        have y5 : (((((((w5.setCell ⟨R, 0, none⟩ (.int .i64 c0)).setCell ⟨R, 1, none⟩ (.int .i64 c1)).setCell ⟨R, 2, none⟩ (.int .i64 c2)).setCell ⟨R, 3, none⟩ (.int .i64 c3)).setCell ⟨R, 4, none⟩ (.int .i64 cn)).setCell ⟨R, 5, none⟩ (.int .i64 cd)).setCell ⟨R, 6, none⟩ (.int .i64 co)).cell? ⟨R, 5, none⟩ = some (.int .i64 cd) := hs.c5
        have y6 : (((((((w5.setCell ⟨R, 0, none⟩ (.int .i64 c0)).setCell ⟨R, 1, none⟩ (.int .i64 c1)).setCell ⟨R, 2, none⟩ (.int .i64 c2)).setCell ⟨R, 3, none⟩ (.int .i64 c3)).setCell ⟨R, 4, none⟩ (.int .i64 cn)).setCell ⟨R, 5, none⟩ (.int .i64 cd)).setCell ⟨R, 6, none⟩ (.int .i64 co)).cell? ⟨R, 6, none⟩ = some (.int .i64 co) := hs.c6
        (try simp only [Exit.inBlock, Exit.then])
        refine bodyPost_ret (by simp [results, Tryz.results34, go_sem, y0, y1, y2, y3, y4, y5, y6]; try rfl) rfl ?_
        refine ⟨setU_below HB5.out hwR c0 c1 c2 c3 cn cd co, ?_⟩
        rw [← HRe.out]
        rw [HFS.out, HGS.out]
        exact rtpost_yes v2 rfl (own_setU HO5.out (Nat.lt_succ_self R) c0 c1 c2 c3 cn cd co)
      · have HN := Lib.hid hn
        clear hn
        obtain ⟨r0, r1, r2, r3, r4, r5, r6, rz⟩ := HR5.out
        go_wp2_with fail
        have hs := (HR5.out).set c0 c1 c2 c3 cn cd co
        have y0 : (((((((w5.setCell ⟨R, 0, none⟩ (.int .i64 c0)).setCell ⟨R, 1, none⟩ (.int .i64 c1)).setCell ⟨R, 2, none⟩ (.int .i64 c2)).setCell ⟨R, 3, none⟩ (.int .i64 c3)).setCell ⟨R, 4, none⟩ (.int .i64 cn)).setCell ⟨R, 5, none⟩ (.int .i64 cd)).setCell ⟨R, 6, none⟩ (.int .i64 co)).cell? ⟨R, 0, none⟩ = some (.int .i64 c0) := hs.c0
        have y1 : (((((((w5.setCell ⟨R, 0, none⟩ (.int .i64 c0)).setCell ⟨R, 1, none⟩ (.int .i64 c1)).setCell ⟨R, 2, none⟩ (.int .i64 c2)).setCell ⟨R, 3, none⟩ (.int .i64 c3)).setCell ⟨R, 4, none⟩ (.int .i64 cn)).setCell ⟨R, 5, none⟩ (.int .i64 cd)).setCell ⟨R, 6, none⟩ (.int .i64 co)).cell? ⟨R, 1, none⟩ = some (.int .i64 c1) := hs.c1
        have y2 : (((((((w5.setCell ⟨R, 0, none⟩ (.int .i64 c0)).setCell ⟨R, 1, none⟩ (.int .i64 c1)).setCell ⟨R, 2, none⟩ (.int .i64 c2)).setCell ⟨R, 3, none⟩ (.int .i64 c3)).setCell ⟨R, 4, none⟩ (.int .i64 cn)).setCell ⟨R, 5, none⟩ (.int .i64 cd)).setCell ⟨R, 6, none⟩ (.int .i64 co)).cell? ⟨R, 2, none⟩ = some (.int .i64 c2) := hs.c2
        have y3 : (((((((w5.setCell ⟨R, 0, none⟩ (.int .i64 c0)).setCell ⟨R, 1, none⟩ (.int .i64 c1)).setCell ⟨R, 2, none⟩ (.int .i64 c2)).setCell ⟨R, 3, none⟩ (.int .i64 c3)).setCell ⟨R, 4, none⟩ (.int .i64 cn)).setCell ⟨R, 5, none⟩ (.int .i64 cd)).setCell ⟨R, 6, none⟩ (.int .i64 co)).cell? ⟨R, 3, none⟩ = some (.int .i64 c3) := hs.c3
        have y4 : (((((((w5.setCell ⟨R, 0, none⟩ (.int .i64 c0)).setCell ⟨R, 1, none⟩ (.int .i64 c1)).setCell ⟨R, 2, none⟩ (.int .i64 c2)).setCell ⟨R, 3, none⟩ (.int .i64 c3)).setCell ⟨R, 4, none⟩ (.int .i64 cn)).setCell ⟨R, 5, none⟩ (.int .i64 cd)).setCell ⟨R, 6, none⟩ (.int .i64 co)).cell? ⟨R, 4, none⟩ = some (.int .i64 cn) := hs.c4
        have y5 : (((((((w5.setCell ⟨R, 0, none⟩ (.int .i64 c0)).setCell ⟨R, 1, none⟩ (.int .i64 c1)).setCell ⟨R, 2, none⟩ (.int .i64 c2)).setCell ⟨R, 3, none⟩ (.int .i64 c3)).setCell ⟨R, 4, none⟩ (.int .i64 cn)).setCell ⟨R, 5, none⟩ (.int .i64 cd)).setCell ⟨R, 6, none⟩ (.int .i64 co)).cell? ⟨R, 5, none⟩ = some (.int .i64 cd) := hs.c5
        have y6 : (((((((w5.setCell ⟨R, 0, none⟩ (.int .i64 c0)).setCell ⟨R, 1, none⟩ (.int .i64 c1)).setCell ⟨R, 2, none⟩ (.int .i64 c2)).setCell ⟨R, 3, none⟩ (.int .i64 c3)).setCell ⟨R, 4, none⟩ (.int .i64 cn)).setCell ⟨R, 5, none⟩ (.int .i64 cd)).setCell ⟨R, 6, none⟩ (.int .i64 co)).cell? ⟨R, 6, none⟩ = some (.int .i64 co) := hs.c6
        (try simp only [Exit.inBlock, Exit.then])
        refine bodyPost_ret (by simp [results, Tryz.results34, go_sem, y0, y1, y2, y3, y4, y5, y6]; try rfl) rfl ?_
        refine ⟨setU_below HB5.out hwR c0 c1 c2 c3 cn cd co, ?_⟩
        rw [← HRe.out]
        rw [HFS.out, HN.out]
        exact rtpost_no ⟨c0, c1, c2, c3, cn, cd, co⟩ (.slice none 0 0) rfl
  · have HN := Lib.hid hn
    clear hn hlen
    obtain ⟨r0, r1, r2, r3, r4, r5, r6, rz⟩ := HR4.out
    go_wp2_with fail
    have hs := (HR4.out).set c0 c1 c2 c3 cn cd co
    have y0 : (((((((w4.setCell ⟨R, 0, none⟩ (.int .i64 c0)).setCell ⟨R, 1, none⟩ (.int .i64 c1)).setCell ⟨R, 2, none⟩ (.int .i64 c2)).setCell ⟨R, 3, none⟩ (.int .i64 c3)).setCell ⟨R, 4, none⟩ (.int .i64 cn)).setCell ⟨R, 5, none⟩ (.int .i64 cd)).setCell ⟨R, 6, none⟩ (.int .i64 co)).cell? ⟨R, 0, none⟩ = some (.int .i64 c0) := hs.c0
    have y1 : (((((((w4.setCell ⟨R, 0, none⟩ (.int .i64 c0)).setCell ⟨R, 1, none⟩ (.int .i64 c1)).setCell ⟨R, 2, none⟩ (.int .i64 c2)).setCell ⟨R, 3, none⟩ (.int .i64 c3)).setCell ⟨R, 4, none⟩ (.int .i64 cn)).setCell ⟨R, 5, none⟩ (.int .i64 cd)).setCell ⟨R, 6, none⟩ (.int .i64 co)).cell? ⟨R, 1, none⟩ = some (.int .i64 c1) := hs.c1
    have y2 : (((((((w4.setCell ⟨R, 0, none⟩ (.int .i64 c0)).setCell ⟨R, 1, none⟩ (.int .i64 c1)).setCell ⟨R, 2, none⟩ (.int .i64 c2)).setCell ⟨R, 3, none⟩ (.int .i64 c3)).setCell ⟨R, 4, none⟩ (.int .i64 cn)).setCell ⟨R, 5, none⟩ (.int .i64 cd)).setCell ⟨R, 6, none⟩ (.int .i64 co)).cell? ⟨R, 2, none⟩ = some (.int .i64 c2) := hs.c2
    have y3 : (((((((w4.setCell ⟨R, 0, none⟩ (.int .i64 c0)).setCell ⟨R, 1, none⟩ (.int .i64 c1)).setCell ⟨R, 2, none⟩ (.int .i64 c2)).setCell ⟨R, 3, none⟩ (.int .i64 c3)).setCell ⟨R, 4, none⟩ (.int .i64 cn)).setCell ⟨R, 5, none⟩ (.int .i64 cd)).setCell ⟨R, 6, none⟩ (.int .i64 co)).cell? ⟨R, 3, none⟩ = some (.int .i64 c3) := hs.c3
    have y4 : (((((((w4.setCell ⟨R, 0, none⟩ (.int .i64 c0)).setCell ⟨R, 1, none⟩ (.int .i64 c1)).setCell ⟨R, 2, none⟩ (.int .i64 c2)).setCell ⟨R, 3, none⟩ (.int .i64 c3)).setCell ⟨R, 4, none⟩ (.int .i64 cn)).setCell ⟨R, 5, none⟩ (.int .i64 cd)).setCell ⟨R, 6, none⟩ (.int .i64 co)).cell? ⟨R, 4, none⟩ = some (.int .i64 cn) := hs.c4
    have y5 : (((((((w4.setCell ⟨R, 0, none⟩ (.int .i64 c0)).setCell ⟨R, 1, none⟩ (.int .i64 c1)).setCell ⟨R, 2, none⟩ (.int .i64 c2)).setCell ⟨R, 3, none⟩ (.int .i64 c3)).setCell ⟨R, 4, none⟩ (.int .i64 cn)).setCell ⟨R, 5, none⟩ (.int .i64 cd)).setCell ⟨R, 6, none⟩ (.int .i64 co)).cell? ⟨R, 5, none⟩ = some (.int .i64 cd) := hs.c5
    have y6 : (((((((w4.setCell ⟨R, 0, none⟩ (.int .i64 c0)).setCell ⟨R, 1, none⟩ (.int .i64 c1)).setCell ⟨R, 2, none⟩ (.int .i64 c2)).setCell ⟨R, 3, none⟩ (.int .i64 c3)).setCell ⟨R, 4, none⟩ (.int .i64 cn)).setCell ⟨R, 5, none⟩ (.int .i64 cd)).setCell ⟨R, 6, none⟩ (.int .i64 co)).cell? ⟨R, 6, none⟩ = some (.int .i64 co) := hs.c6
    (try simp only [Exit.inBlock, Exit.then])
    refine bodyPost_ret (by simp [results, Tryz.results34, go_sem, y0, y1, y2, y3, y4, y5, y6]; try rfl) rfl ?_
    refine ⟨setU_below HB4.out hwR c0 c1 c2 c3 cn cd co, ?_⟩
    rw [← HRe.out]
    rw [HN.out]
    exact rtpost_no ⟨c0, c1, c2, c3, cn, cd, co⟩ (.slice none 0 0) rfl

def readTextL (s : ByteArray) : Option (UnitD × List FactD) :=
  if 40 < s.size then none
  else if (cutScaleL s.data.toList).2.2 = true then
    rtC (cutScaleL s.data.toList).1 (Lib.cut (cutScaleL s.data.toList).2.1 [47]).2.2 (readF (partsB ⟨(Lib.cut (cutScaleL s.data.toList).2.1 [47]).1.toArray⟩ 46) false) (readF (partsB ⟨(Lib.cut (cutScaleL s.data.toList).2.1 [47]).2.1.toArray⟩ 46) true)
  else none
theorem cutScale_len (l : List UInt8) : (cutScaleL l).2.1.length ≤ l.length := by
  have := (cut_le l 42).2
  unfold cutScaleL
  split
  · split
    · exact Nat.zero_le _
    · exact this
  · exact Nat.le_refl _
theorem parts_len (s : ByteArray) (c : UInt8) : (partsB s c).length ≤ s.size + 1 := by
  have hlen : (partsB s c).length = Lib.countB s ⟨#[c]⟩ + 1 := Lib.splitB_all ⟨#[c]⟩ (Nat.le_refl 1) 0 _ s rfl
  have hle := Lib.countB_le ⟨#[c]⟩ (Nat.le_refl 1) s.size s (Nat.le_refl _)
  omega
theorem readF_len {ps : List ByteArray} {b : Bool} {fs : List FactD} (h : readF ps b = some fs) : fs.length = ps.length := by
  unfold readF at h
  split at h
  · injection h with h; rw [← h, List.length_map]
  · cases h
theorem readText_any (s : ByteArray) (w : World) (hs : s.size ≤ 1000) (hg : Gu w) :
    Calls Tryz.prog 34 #[.string s] w fun e w' => Below w.heap.size w w' ∧ RTpost (w.heap.size + 1) (readTextL s) e w' := by
  unfold readTextL
  by_cases h : 40 < s.size
  · rw [if_pos h]; exact rt_long s w h
  · rw [if_neg h]
    have hl : s.data.toList.length ≤ 40 := by rw [← Lib.size_eq]; omega
    have hC := fun w hg => cutScale_any s w (by omega) hg
    cases hok : (cutScaleL s.data.toList).2.2
    · rw [if_neg (by simp)]
      rw [hok] at hC
      exact rt_scale s _ _ _ _ _ _ _ _ w (by omega) hg (Lib.hid hC)
    · rw [if_pos rfl]
      rw [hok] at hC
      have l0 := cutScale_len s.data.toList
      have l1 := cut_le (cutScaleL s.data.toList).2.1 47
      have hcut := fun w => cut_one ⟨(cutScaleL s.data.toList).2.1.toArray⟩ 47 w (by rw [size_mk]; omega)
      have sA := size_mk (Lib.cut (cutScaleL s.data.toList).2.1 [47]).1
      have sB := size_mk (Lib.cut (cutScaleL s.data.toList).2.1 [47]).2.1
      refine rt_rest s _ _ _ _ _ _ _ _ _ _ _ _ _ w (by omega) hg (fun fs hfs => ?_) (Lib.hid hC) (Lib.hid hcut) (Lib.hid fun w R hR => ?_) (Lib.hid fun w R hR v n xs how hn => ?_)
      · have h1 := readF_len hfs
        have h2 := parts_len ⟨(Lib.cut (cutScaleL s.data.toList).2.1 [47]).1.toArray⟩ 46
        omega
      · exact readFactors_any ⟨(Lib.cut (cutScaleL s.data.toList).2.1 [47]).1.toArray⟩ false 0 (R + 1) (R + 1) _ [] w (by rw [size_mk]; omega) hR (Nat.le_refl _) hR (World.ownsRow_nil _ _ _ _) (by omega)
      · exact readFactors_any ⟨(Lib.cut (cutScaleL s.data.toList).2.1 [47]).2.1.toArray⟩ true n (R + 1) (R + 1) v xs w (by rw [size_mk]; omega) hR (Nat.le_refl _) hR how hn
end Go.Proofs.YtlahoohgbfjciaaGreatDoor
