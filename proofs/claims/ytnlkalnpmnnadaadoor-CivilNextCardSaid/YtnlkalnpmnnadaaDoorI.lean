/- Contracts of civil.ParseClock and Parse. Asked: the table of the days before each month. -/
import Derived.Test.YtnlkalnpmnnadaaDoorH
namespace Go.Proofs.YtnlkalnpmnnadaaDoor
open Go.RowKit

/-- hour and minute of a text -/
def hh (l : List UInt8) : Int := (numL (l.take 2) : Nat)
def mm (l : List UInt8) : Int := (numL (l.drop 3) : Nat)
def clockR (l : List UInt8) : Int × Int := if formL l clockF = true then (if hh l < 24 ∧ mm l < 60 then (hh l * 60 + mm l, 0) else (0, 6)) else (0, 2)
theorem numL_lt (l : List UInt8) (k : Nat) (h : digs l = true) (hk : l.length ≤ k) (k4 : k ≤ 4) : 0 ≤ ((numL l : Nat) : Int) ∧ ((numL l : Nat) : Int) < 10000 := by
  have h1 := numF_lt l 0 h
  have h2 : 10 ^ l.length ≤ 10 ^ 4 := Nat.pow_le_pow_right (by omega) (by omega)
  have : numL l = numF 0 l := rfl
  omega

theorem args22 (w : World) (i : Nat) (hi : i < 2) : (w.alloc (Obj.cells #[.int .i64 2, .int .i64 2] 3)).cell? ⟨w.heap.size, i, none⟩ = some (.int .i64 (([2, 2] : List Nat).getD i 0 : Nat)) := by
  rcases (by omega : i = 0 ∨ i = 1) with rfl | rfl
  · simp
  · simp
theorem args422 (w : World) (i : Nat) (hi : i < 3) : (w.alloc (Obj.cells #[.int .i64 4, .int .i64 2, .int .i64 2] 3)).cell? ⟨w.heap.size, i, none⟩ = some (.int .i64 (([4, 2, 2] : List Nat).getD i 0 : Nat)) := by
  rcases (by omega : i = 0 ∨ i = 1 ∨ i = 2) with rfl | rfl | rfl
  · simp
  · simp
  · simp

set_option maxHeartbeats 1000000 in
theorem parseClock_no (s : ByteArray) (w : World) (hs : s.size ≤ 100) (h : formL s.data.toList clockF = false) :
    Calls Tryd.prog 34 #[.string s] w fun e w' => e = .returned (.tuple #[.int .i64 0, .int .i64 2]) ∧ Below w.heap.size w w' := by
  have H := Lib.hid (rn_no s 58 w.heap.size 2 [2, 2] (w.alloc (Obj.cells #[.int .i64 2, .int .i64 2] 3)) hs (by simp) (fun i hi => by rcases (show i = 0 ∨ i = 1 by simp at hi; omega) with rfl | rfl <;> decide) (by decide) (by decide) (fun i hi => args22 w i hi) (by rw [clock_ok]; exact h))
  clear h
  go_enter Tryd.func34, Tryd.ntmps34
  go_wp2_with fail
  refine H.out.mono ?_
  rintro e w1 ⟨rfl, hb⟩
  have B := Lib.hid (((Below.refl w.heap.size w).alloc (Nat.le_refl _) _).trans (hb.mono (by simp)))
  clear hb
  go_wp2_with fail
  go_ret2
  exact ⟨rfl, B.out⟩

set_option maxHeartbeats 1000000 in
theorem parseClock_yes (s : ByteArray) (w : World) (hs : s.size ≤ 100) (h : formL s.data.toList clockF = true) :
    Calls Tryd.prog 34 #[.string s] w fun e w' => e = .returned (.tuple #[.int .i64 (clockR s.data.toList).1, .int .i64 (clockR s.data.toList).2]) ∧ Below w.heap.size w w' := by
  have H := Lib.hid (rn_yes s 58 w.heap.size 2 [2, 2] (w.alloc (Obj.cells #[.int .i64 2, .int .i64 2] 3)) hs (by simp) (fun i hi => by rcases (show i = 0 ∨ i = 1 by simp at hi; omega) with rfl | rfl <;> decide) (by decide) (by decide) (fun i hi => args22 w i hi) (by rw [clock_ok]; exact h))
  obtain ⟨v0, v1, d0, d1, hl⟩ := clock_vals s h
  have r0 := numL_lt _ 2 d0 (by rw [List.length_take]; omega) (by omega)
  have r1 := numL_lt _ 2 d1 (by rw [List.length_drop]; omega) (by omega)
  have hR : clockR s.data.toList = if hh s.data.toList < 24 ∧ mm s.data.toList < 60 then (hh s.data.toList * 60 + mm s.data.toList, 0) else (0, 6) := by unfold clockR; rw [if_pos h]
  rw [hR]
  change 0 ≤ hh s.data.toList ∧ hh s.data.toList < 10000 at r0
  change 0 ≤ mm s.data.toList ∧ mm s.data.toList < 10000 at r1
  change _ = hh s.data.toList at v0
  change _ = mm s.data.toList at v1
  obtain ⟨x, hx⟩ : ∃ x, x = hh s.data.toList := ⟨_, rfl⟩
  obtain ⟨y, hy⟩ : ∃ y, y = mm s.data.toList := ⟨_, rfl⟩
  rw [← hx] at r0 v0 ⊢
  rw [← hy] at r1 v1 ⊢
  have HV0 := Lib.hid v0
  have HV1 := Lib.hid v1
  clear v0 v1 d0 d1 hl hR hx hy h
  rcases (by omega : 24 ≤ x ∨ (x < 24 ∧ 60 ≤ y) ∨ (x < 24 ∧ y < 60)) with hc | ⟨hc1, hc2⟩ | ⟨hc1, hc2⟩
  · rw [if_neg (by omega)]
    go_enter Tryd.func34, Tryd.ntmps34
    go_wp2_with fail
    refine H.out.mono ?_
    rintro e w1 ⟨hb, b, k, rfl, hcs⟩
    have B := Lib.hid (((Below.refl w.heap.size w).alloc (Nat.le_refl _) _).trans (hb.mono (by simp)))
    have c0 : w1.cell? ⟨b, 0, none⟩ = some (.int .i64 x) := by rw [← HV0.out]; exact hcs 0 (by decide)
    have c1 : w1.cell? ⟨b, 1, none⟩ = some (.int .i64 y) := by rw [← HV1.out]; exact hcs 1 (by decide)
    clear hb hcs
    go_wp2_with fail
    go_quiet (fail)
    go_wp2_with fail
    go_ret2
    exact ⟨rfl, bdraw B.out _⟩
  · rw [if_neg (by omega)]
    go_enter Tryd.func34, Tryd.ntmps34
    go_wp2_with fail
    refine H.out.mono ?_
    rintro e w1 ⟨hb, b, k, rfl, hcs⟩
    have B := Lib.hid (((Below.refl w.heap.size w).alloc (Nat.le_refl _) _).trans (hb.mono (by simp)))
    have c0 : w1.cell? ⟨b, 0, none⟩ = some (.int .i64 x) := by rw [← HV0.out]; exact hcs 0 (by decide)
    have c1 : w1.cell? ⟨b, 1, none⟩ = some (.int .i64 y) := by rw [← HV1.out]; exact hcs 1 (by decide)
    clear hb hcs
    go_wp2_with fail
    go_quiet (fail)
    go_wp2_with fail
    go_ret2
    exact ⟨rfl, bdraw B.out _⟩
  · rw [if_pos ⟨hc1, hc2⟩]
    go_enter Tryd.func34, Tryd.ntmps34
    go_wp2_with fail
    refine H.out.mono ?_
    rintro e w1 ⟨hb, b, k, rfl, hcs⟩
    have B := Lib.hid (((Below.refl w.heap.size w).alloc (Nat.le_refl _) _).trans (hb.mono (by simp)))
    have c0 : w1.cell? ⟨b, 0, none⟩ = some (.int .i64 x) := by rw [← HV0.out]; exact hcs 0 (by decide)
    have c1 : w1.cell? ⟨b, 1, none⟩ = some (.int .i64 y) := by rw [← HV1.out]; exact hcs 1 (by decide)
    clear hb hcs
    go_wp2_with fail
    go_quiet (fail)
    go_wp2_with fail
    go_ret2
    exact ⟨rfl, bdraw B.out _⟩

/-- year, month and day of a text -/
def dY (l : List UInt8) : Int := (numL (l.take 4) : Nat)
def dM (l : List UInt8) : Int := (numL ((l.take 7).drop 5) : Nat)
def dD (l : List UInt8) : Int := (numL (l.drop 8) : Nat)

theorem date_new (w : World) (o : Obj) : DateAt ((w.alloc (Obj.cells #[.int .i64 0, .int .i64 0, .int .i64 0] 23)).alloc o) w.heap.size 0 0 0 := ⟨by simp, by simp, by simp, by simp⟩
set_option maxHeartbeats 1000000 in
theorem parse_syn (s : ByteArray) (w : World) (hs : s.size ≤ 100) (h : formL s.data.toList dateF = false) :
    Calls Tryd.prog 32 #[.string s] w fun e w' => e = .returned (.tuple #[dateV 0 0 0, .int .i64 2]) ∧ Below w.heap.size w w' := by
  have H := Lib.hid (rn_no s 45 (w.heap.size + 1) 3 [4, 2, 2] ((w.alloc (Obj.cells #[.int .i64 0, .int .i64 0, .int .i64 0] 23)).alloc (Obj.cells #[.int .i64 4, .int .i64 2, .int .i64 2] 3)) hs (by simp) (fun i hi => by rcases (show i = 0 ∨ i = 1 ∨ i = 2 by simp at hi; omega) with rfl | rfl | rfl <;> decide) (by decide) (by decide) (fun i hi => by have := args422 (w.alloc (Obj.cells #[.int .i64 0, .int .i64 0, .int .i64 0] 23)) i hi; simpa using this) (by rw [date_ok]; exact h))
  clear h
  go_enter Tryd.func32, Tryd.ntmps32
  go_wp2_with fail
  refine H.out.mono ?_
  rintro e w1 ⟨rfl, hb⟩
  have HR := (date_new w (.cells #[.int .i64 4, .int .i64 2, .int .i64 2] 3)).keep hb
  have y0 := (HR.set0 0).c0
  have y1 := ((HR.set0 0).set1 0).c1
  have y2 := (((HR.set0 0).set1 0).set2 0).c2
  have s0 := HR.c0
  have s1 := HR.c1
  have s2 := HR.c2
  have fz := HR.fz
  have B := Lib.hid ((((Below.refl w.heap.size w).alloc (Nat.le_refl _) _).alloc (by simp) _).trans (hb.mono (by simp; omega)))
  clear hb HR
  go_wp2_with fail
  refine bodyPost_ret (v := .tuple #[dateV 0 0 0, .int .i64 2]) (by simp [results, Tryd.results32, go_sem, y0, y1, y2]) rfl ⟨rfl, ?_⟩
  exact ((B.out.setCell (Nat.le_refl _) _).setCell (Nat.le_refl _) _).setCell (Nat.le_refl _) _

set_option maxHeartbeats 1000000 in
theorem parse_ok (s : ByteArray) (w : World) (hs : s.size ≤ 100) (hT : BefT w) (h : formL s.data.toList dateF = true) (hk : checkI (dY s.data.toList) (dM s.data.toList) (dD s.data.toList) = 0) :
    Calls Tryd.prog 32 #[.string s] w fun e w' => e = .returned (.tuple #[dateV (dY s.data.toList) (dM s.data.toList) (dD s.data.toList), .int .i64 0]) ∧ Below w.heap.size w w' := by
  have H := Lib.hid (rn_yes s 45 (w.heap.size + 1) 3 [4, 2, 2] ((w.alloc (Obj.cells #[.int .i64 0, .int .i64 0, .int .i64 0] 23)).alloc (Obj.cells #[.int .i64 4, .int .i64 2, .int .i64 2] 3)) hs (by simp) (fun i hi => by rcases (show i = 0 ∨ i = 1 ∨ i = 2 by simp at hi; omega) with rfl | rfl | rfl <;> decide) (by decide) (by decide) (fun i hi => by have := args422 (w.alloc (Obj.cells #[.int .i64 0, .int .i64 0, .int .i64 0] 23)) i hi; simpa using this) (by rw [date_ok]; exact h))
  obtain ⟨v0, v1, v2, _, _, _, _⟩ := date_vals s h
  change _ = dY s.data.toList at v0
  change _ = dM s.data.toList at v1
  change _ = dD s.data.toList at v2
  have HV0 := Lib.hid v0
  have HV1 := Lib.hid v1
  have HV2 := Lib.hid v2
  obtain ⟨y, hy⟩ : ∃ y, y = dY s.data.toList := ⟨_, rfl⟩
  obtain ⟨m, hm⟩ : ∃ y, y = dM s.data.toList := ⟨_, rfl⟩
  obtain ⟨d, hd⟩ : ∃ y, y = dD s.data.toList := ⟨_, rfl⟩
  rw [← hy] at HV0
  rw [← hm] at HV1
  rw [← hd] at HV2
  rw [← hy, ← hm, ← hd] at hk ⊢
  have HC := Lib.hid fun w' (hb : Below w.heap.size w w') => check_any y m d w' (hT.below hb)
  obtain ⟨z, hz⟩ : ∃ z, z = checkI y m d := ⟨_, rfl⟩
  rw [← hz] at HC hk
  rw [hk] at HC
  clear hk
  clear v0 v1 v2 hy hm hd hz hT h
  go_enter Tryd.func32, Tryd.ntmps32
  go_wp2_with fail
  refine H.out.mono ?_
  rintro e w1 ⟨hb, b, k, rfl, hcs⟩
  have HR := (date_new w (.cells #[.int .i64 4, .int .i64 2, .int .i64 2] 3)).keep hb
  have B := Lib.hid ((((Below.refl w.heap.size w).alloc (Nat.le_refl _) _).alloc (by simp) _).trans (hb.mono (by simp; omega)))
  have c0 : w1.cell? ⟨b, 0, none⟩ = some (.int .i64 y) := by rw [← HV0.out]; exact hcs 0 (by decide)
  have c1 : w1.cell? ⟨b, 1, none⟩ = some (.int .i64 m) := by rw [← HV1.out]; exact hcs 1 (by decide)
  have c2 : w1.cell? ⟨b, 2, none⟩ = some (.int .i64 d) := by rw [← HV2.out]; exact hcs 2 (by decide)
  have HRR := Lib.hid HR
  clear hb hcs HR H
  go_wp2_with fail
  go_region_held3 (fun w' => w'.cell? ⟨b, 0, none⟩ = some (.int .i64 y) ∧ w'.cell? ⟨b, 1, none⟩ = some (.int .i64 m) ∧ w'.cell? ⟨b, 2, none⟩ = some (.int .i64 d)) (first | go_keep) ((fail))
  rename_i hHeld
  clear hHeld
  go_wp2_with fail
  have B1 : Below w.heap.size w (w1.alloc (Obj.cells #[.int .i64 y, .int .i64 m, .int .i64 d] 23)).drew := (B.out.alloc B.out.size _).trans (below_drewN _ _ 1)
  have D1 : DateAt (w1.alloc (Obj.cells #[.int .i64 y, .int .i64 m, .int .i64 d] 23)).drew w1.heap.size y m d := ⟨by simp, by simp, by simp, by simp⟩
  have R1 : DateAt (w1.alloc (Obj.cells #[.int .i64 y, .int .i64 m, .int .i64 d] 23)).drew w.heap.size 0 0 0 := HRR.out.keep (((Below.refl _ _).alloc (Nat.le_refl _) _).trans (below_drewN _ _ 1))
  refine (HC.out _ B1).mono ?_
  rintro e w2 ⟨rfl, hb2⟩
  have HD2 := Lib.hid (D1.keep hb2)
  have HR2 := Lib.hid (R1.keep hb2)
  have B2 := Lib.hid (B1.trans (hb2.mono B1.size))
  have e0 := HD2.out.c0
  have e1 := HD2.out.c1
  have e2 := HD2.out.c2
  have s0 := HR2.out.c0
  have s1 := HR2.out.c1
  have s2 := HR2.out.c2
  have fz := HR2.out.fz
  clear hb2 B1 D1 R1 c0 c1 c2
  have y0 := ((HR2.out.set0 y)).c0
  have y1 := ((HR2.out.set0 y).set1 m).c1
  have y2 := (((HR2.out.set0 y).set1 m).set2 d).c2
  go_wp2_with fail
  refine bodyPost_ret (v := .tuple #[dateV y m d, .int .i64 0]) (by simp [results, Tryd.results32, go_sem, y0, y1, y2]) rfl ⟨rfl, ?_⟩
  exact ((B2.out.setCell (Nat.le_refl _) _).setCell (Nat.le_refl _) _).setCell (Nat.le_refl _) _

set_option maxHeartbeats 1000000 in
theorem parse_bad (s : ByteArray) (w : World) (hs : s.size ≤ 100) (hT : BefT w) (h : formL s.data.toList dateF = true) (hk : checkI (dY s.data.toList) (dM s.data.toList) (dD s.data.toList) ≠ 0) :
    Calls Tryd.prog 32 #[.string s] w fun e w' => e = .returned (.tuple #[dateV 0 0 0, .int .i64 (checkI (dY s.data.toList) (dM s.data.toList) (dD s.data.toList))]) ∧ Below w.heap.size w w' := by
  have H := Lib.hid (rn_yes s 45 (w.heap.size + 1) 3 [4, 2, 2] ((w.alloc (Obj.cells #[.int .i64 0, .int .i64 0, .int .i64 0] 23)).alloc (Obj.cells #[.int .i64 4, .int .i64 2, .int .i64 2] 3)) hs (by simp) (fun i hi => by rcases (show i = 0 ∨ i = 1 ∨ i = 2 by simp at hi; omega) with rfl | rfl | rfl <;> decide) (by decide) (by decide) (fun i hi => by have := args422 (w.alloc (Obj.cells #[.int .i64 0, .int .i64 0, .int .i64 0] 23)) i hi; simpa using this) (by rw [date_ok]; exact h))
  obtain ⟨v0, v1, v2, _, _, _, _⟩ := date_vals s h
  change _ = dY s.data.toList at v0
  change _ = dM s.data.toList at v1
  change _ = dD s.data.toList at v2
  have HV0 := Lib.hid v0
  have HV1 := Lib.hid v1
  have HV2 := Lib.hid v2
  obtain ⟨y, hy⟩ : ∃ y, y = dY s.data.toList := ⟨_, rfl⟩
  obtain ⟨m, hm⟩ : ∃ y, y = dM s.data.toList := ⟨_, rfl⟩
  obtain ⟨d, hd⟩ : ∃ y, y = dD s.data.toList := ⟨_, rfl⟩
  rw [← hy] at HV0
  rw [← hm] at HV1
  rw [← hd] at HV2
  rw [← hy, ← hm, ← hd] at hk ⊢
  have HC := Lib.hid fun w' (hb : Below w.heap.size w w') => check_any y m d w' (hT.below hb)
  obtain ⟨z, hz⟩ : ∃ z, z = checkI y m d := ⟨_, rfl⟩
  rw [← hz] at HC hk ⊢
  have t0 : (z != 0) = true := by rw [bne_iff_ne]; exact hk
  clear hk
  clear v0 v1 v2 hy hm hd hz hT h
  go_enter Tryd.func32, Tryd.ntmps32
  go_wp2_with fail
  refine H.out.mono ?_
  rintro e w1 ⟨hb, b, k, rfl, hcs⟩
  have HR := (date_new w (.cells #[.int .i64 4, .int .i64 2, .int .i64 2] 3)).keep hb
  have B := Lib.hid ((((Below.refl w.heap.size w).alloc (Nat.le_refl _) _).alloc (by simp) _).trans (hb.mono (by simp; omega)))
  have c0 : w1.cell? ⟨b, 0, none⟩ = some (.int .i64 y) := by rw [← HV0.out]; exact hcs 0 (by decide)
  have c1 : w1.cell? ⟨b, 1, none⟩ = some (.int .i64 m) := by rw [← HV1.out]; exact hcs 1 (by decide)
  have c2 : w1.cell? ⟨b, 2, none⟩ = some (.int .i64 d) := by rw [← HV2.out]; exact hcs 2 (by decide)
  have HRR := Lib.hid HR
  clear hb hcs HR H
  go_wp2_with fail
  go_region_held3 (fun w' => w'.cell? ⟨b, 0, none⟩ = some (.int .i64 y) ∧ w'.cell? ⟨b, 1, none⟩ = some (.int .i64 m) ∧ w'.cell? ⟨b, 2, none⟩ = some (.int .i64 d)) (first | go_keep) ((fail))
  rename_i hHeld
  clear hHeld
  go_wp2_with fail
  have B1 : Below w.heap.size w (w1.alloc (Obj.cells #[.int .i64 y, .int .i64 m, .int .i64 d] 23)).drew := (B.out.alloc B.out.size _).trans (below_drewN _ _ 1)
  have D1 : DateAt (w1.alloc (Obj.cells #[.int .i64 y, .int .i64 m, .int .i64 d] 23)).drew w1.heap.size y m d := ⟨by simp, by simp, by simp, by simp⟩
  have R1 : DateAt (w1.alloc (Obj.cells #[.int .i64 y, .int .i64 m, .int .i64 d] 23)).drew w.heap.size 0 0 0 := HRR.out.keep (((Below.refl _ _).alloc (Nat.le_refl _) _).trans (below_drewN _ _ 1))
  refine (HC.out _ B1).mono ?_
  rintro e w2 ⟨rfl, hb2⟩
  have HD2 := Lib.hid (D1.keep hb2)
  have HR2 := Lib.hid (R1.keep hb2)
  have B2 := Lib.hid (B1.trans (hb2.mono B1.size))
  have e0 := HD2.out.c0
  have e1 := HD2.out.c1
  have e2 := HD2.out.c2
  have s0 := HR2.out.c0
  have s1 := HR2.out.c1
  have s2 := HR2.out.c2
  have fz := HR2.out.fz
  clear hb2 B1 D1 R1 c0 c1 c2
  have y0 := ((HR2.out.set0 0)).c0
  have y1 := ((HR2.out.set0 0).set1 0).c1
  have y2 := (((HR2.out.set0 0).set1 0).set2 0).c2
  go_wp2_with fail
  refine bodyPost_ret (v := .tuple #[dateV 0 0 0, .int .i64 z]) (by simp [results, Tryd.results32, go_sem, y0, y1, y2]) rfl ⟨rfl, ?_⟩
  exact ((B2.out.setCell (Nat.le_refl _) _).setCell (Nat.le_refl _) _).setCell (Nat.le_refl _) _

end Go.Proofs.YtnlkalnpmnnadaaDoor
