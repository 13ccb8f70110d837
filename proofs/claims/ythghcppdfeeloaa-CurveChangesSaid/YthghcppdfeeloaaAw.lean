/- awake: the chapter's examples. -/
import Derived.Test.YthghcppdfeeloaaSm
import Derived.Test.YthghcppdfeeloaaBp
import Derived.Test.YthghcppdfeeloaaSa
import Derived.Test.YthghcppdfeeloaaIn
import Derived.Test.YthghcppdfeeloaaEl
namespace Go.Proofs.Ythghcppdfeeloaa
open Go.RowKit

def kA : List (Int × Int) := [(0, 20000), (10000, 20000), (20000, 15000), (30000, 10000)]
def kB : List (Int × Int) := [(0, 0), (1000, 3)]
def kC : List (Int × Int) := [(10000, 20000), (30000, 10000)]
theorem a_check : checkL kA = 0 := by decide +kernel
theorem b_check : checkL kB = 0 := by decide +kernel
theorem a_v1 : valI kA 15000 = 17500 := by decide +kernel
theorem a_v2 : valI kA 20001 = 15000 := by decide +kernel
theorem a_dir : dirI kA = -1 := by decide +kernel
theorem a_simp : simpR kA = kC := by decide +kernel
theorem a_bounds : boundsA kA 5000 20000 = (15000, 20000, 0) := by decide +kernel
theorem b_inv : invI kB 1 = (167, 0) := by decide +kernel
theorem b_area : areaI kB 1 = 3000 := by decide +kernel

theorem knots_lit (w : World) (ks : List (Int × Int)) (t : TypeId) (h : ks.length ≤ 9223372036854775807) : IsKnots (w.alloc (.cells (cellsK ks).toArray t)) (some ⟨w.heap.size, 0, none⟩) ks.length ks := by
  have hcell : ∀ j, (w.alloc (.cells (cellsK ks).toArray t)).cell? ⟨w.heap.size, j, none⟩ = (cellsK ks)[j]? := fun j => by
    show (match (w.heap.push (Obj.cells (cellsK ks).toArray t))[w.heap.size]? with | some (.cells c _ _) => _ | _ => _) = _
    rw [Array.getElem?_push_size]
    simp
  refine .inr ⟨w.heap.size, 0, rfl, by simp, rfl, h, fun i hi => ?_⟩
  rw [hcell, hcell, Nat.zero_add]
  exact cellsK_at ks i hi
theorem lit_A (w : World) : IsKnots (w.alloc (Obj.cells #[.int .i64 0, .int .i64 20000, .int .i64 10000, .int .i64 20000, .int .i64 20000, .int .i64 15000, .int .i64 30000, .int .i64 10000] 50)) (some ⟨w.heap.size, 0, none⟩) 4 kA := knots_lit w kA _ (by decide)
theorem lit_B (w : World) : IsKnots (w.alloc (Obj.cells #[.int .i64 0, .int .i64 0, .int .i64 1000, .int .i64 3] 50)) (some ⟨w.heap.size, 0, none⟩) 2 kB := knots_lit w kB _ (by decide)
theorem lit_C (w : World) : IsKnots (w.alloc (Obj.cells #[.int .i64 10000, .int .i64 20000, .int .i64 30000, .int .i64 10000] 50)) (some ⟨w.heap.size, 0, none⟩) 2 kC := knots_lit w kC _ (by decide)
theorem aw_eval1 (a : Option Addr) (w : World) (h : IsKnots w a 4 kA) : Calls Try.prog 13 #[.slice a 4 4, .int .i64 15000] w fun e w' => e = .returned (.tuple #[.int .i64 17500, .int .i64 0]) ∧ Below w.heap.size w w' := by
  have := eval_any a 4 4 kA 15000 w h; rw [a_check, a_v1] at this; exact this
theorem aw_eval2 (a : Option Addr) (w : World) (h : IsKnots w a 4 kA) : Calls Try.prog 13 #[.slice a 4 4, .int .i64 20001] w fun e w' => e = .returned (.tuple #[.int .i64 15000, .int .i64 0]) ∧ Below w.heap.size w w' := by
  have := eval_any a 4 4 kA 20001 w h; rw [a_check, a_v2] at this; exact this
theorem aw_dir (a : Option Addr) (w : World) (h : IsKnots w a 4 kA) : Calls Try.prog 14 #[.slice a 4 4] w fun e w' => e = .returned (.tuple #[.int .i64 (-1), .int .i64 0]) ∧ Below w.heap.size w w' := by
  have := direction_any a 4 4 kA w h; rw [a_check, a_dir] at this; exact this
theorem aw_simp (a : Option Addr) (w : World) (h : IsKnots w a 4 kA) : Calls Try.prog 24 #[.slice a 4 4] w fun e w' => (∃ a' c, e = .returned (.tuple #[.slice a' 2 c, .int .i64 0]) ∧ IsKnots w' a' 2 kC) ∧ Below w.heap.size w w' := by
  have := simplify_any a 4 4 kA w h; rw [a_check, a_simp] at this; exact this
theorem aw_inv (a : Option Addr) (w : World) (h : IsKnots w a 2 kB) : Calls Try.prog 18 #[.slice a 2 2, .int .i64 1] w fun e w' => e = .returned (.tuple #[.int .i64 167, .int .i64 0]) ∧ Below w.heap.size w w' := by
  have := inverse_any a 2 2 kB 1 w h; rw [b_inv] at this; exact this
theorem aw_area (a : Option Addr) (w : World) (h : IsKnots w a 2 kB) : Calls Try.prog 25 #[.slice a 2 2] w fun e w' => e = .returned (.tuple #[.int .i64 0, .int .i64 3000, .int .i64 0]) ∧ Below w.heap.size w w' := by
  have := area_any a 2 2 kB w h; rw [b_check, show kB.length - 1 = 1 from rfl, b_area] at this; exact this
theorem aw_bounds (a : Option Addr) (w : World) (h : IsKnots w a 4 kA) : Calls Try.prog 20 #[.slice a 4 4, .int .i64 5000, .int .i64 20000] w fun e w' => e = .returned (.tuple #[.agg #[.int .i64 15000, .int .i64 20000], .int .i64 0]) ∧ Below w.heap.size w w' := by
  have := bounds_any a 4 4 kA 5000 20000 w h; rw [a_bounds] at this; exact this
theorem aw_same (a b : Option Addr) (c1 c2 : Nat) (w : World) (h : IsKnots w a 2 kC) (h2 : IsKnots w b 2 kC) : Calls Try.prog 26 #[.slice a 2 c1, .slice b 2 c2] w fun e w' => e = .returned (.bool true) ∧ Below w.heap.size w w' := by
  have := same_any a b 2 2 c1 c2 kC kC w h h2; rw [(sameL_iff kC kC).2 rfl] at this; exact this
theorem IsKnots.more {w : World} {a : Option Addr} {n : Nat} {ks : List (Int × Int)} (h : IsKnots w a n ks) (o : Obj) : IsKnots (w.alloc o) a n ks := h.at ((Below.refl _ _).alloc (Nat.le_refl _) o)

set_option maxHeartbeats 4000000 in
set_option maxRecDepth 100000 in
theorem awake_yes (w : World) : Calls Try.prog 11 #[] w fun e w' => e = .returned (.bool true) ∧ Below w.heap.size w w' := by
  go_enter Try.func11, Try.ntmps11
  go_wp2_with fail
  have B0 : ∀ o, Below w.heap.size w (w.alloc o) := fun o => (Below.refl _ w).alloc (Nat.le_refl _) o
  have K0 := lit_A w
  refine (aw_eval1 _ _ K0).mono ?_
  rintro e w1 ⟨rfl, hb⟩
  have K1 := Lib.hid (K0.at hb)
  have B1 := Lib.hid ((B0 _).trans (hb.mono (B0 _).size))
  clear hb K0 B0
  obtain ⟨g, hg⟩ : ∃ g, g = w.heap.size := ⟨_, rfl⟩
  rw [← hg] at K1 ⊢
  clear hg
  go_wp2_with fail
  refine (aw_eval2 _ _ K1.out).mono ?_
  rintro e w2 ⟨rfl, hb⟩
  have K2 := Lib.hid (K1.out.at hb)
  have B2 := Lib.hid (B1.out.trans (hb.mono B1.out.size))
  clear hb
  go_wp2_with fail
  refine (aw_dir _ _ K2.out).mono ?_
  rintro e w3 ⟨rfl, hb⟩
  have K3 := Lib.hid (K2.out.at hb)
  have B3 := Lib.hid (B2.out.trans (hb.mono B2.out.size))
  clear hb
  go_wp2_with fail
  refine (aw_simp _ _ K3.out).mono ?_
  rintro e w4 ⟨⟨sa, sc, rfl, hS⟩, hb⟩
  have K4 := Lib.hid (K3.out.at hb)
  have S4 := Lib.hid hS
  have B4 := Lib.hid (B3.out.trans (hb.mono B3.out.size))
  clear hb hS
  go_wp2_with fail
  have B0 : ∀ o, Below w.heap.size w (w4.alloc o) := fun o => B4.out.alloc B4.out.size o
  refine (aw_inv _ _ (lit_B w4)).mono ?_
  rintro e w5 ⟨rfl, hb⟩
  have K5 := Lib.hid ((K4.out.more _).at hb)
  have S5 := Lib.hid ((S4.out.more _).at hb)
  have B5 := Lib.hid ((B0 _).trans (hb.mono (B0 _).size))
  clear hb B0
  go_wp2_with fail
  have B0 : ∀ o, Below w.heap.size w (w5.alloc o) := fun o => B5.out.alloc B5.out.size o
  refine (aw_area _ _ (lit_B w5)).mono ?_
  rintro e w6 ⟨rfl, hb⟩
  have K6 := Lib.hid ((K5.out.more _).at hb)
  have S6 := Lib.hid ((S5.out.more _).at hb)
  have B6 := Lib.hid ((B0 _).trans (hb.mono (B0 _).size))
  clear hb B0
  go_wp2_with fail
  refine (aw_bounds _ _ K6.out).mono ?_
  rintro e w7 ⟨rfl, hb⟩
  have S7 := Lib.hid (S6.out.at hb)
  have B7 := Lib.hid (B6.out.trans (hb.mono B6.out.size))
  clear hb
  go_wp2_with fail
  obtain ⟨g7, hg7⟩ : ∃ g7, g7 = w7.heap.size := ⟨_, rfl⟩
  obtain ⟨W, hW⟩ : ∃ W, W = w7.alloc (Obj.cells #[.int .i64 15000, .int .i64 20000] 34) := ⟨_, rfl⟩
  have hWs : W.heap.size = g7 + 1 := by rw [hW, hg7]; simp
  have h0 : W.cell? ⟨g7, 0, none⟩ = some (.int .i64 15000) := by rw [hW, hg7]; exact World.cell?_alloc_new _ _ _ _
  have h1 : W.cell? ⟨g7, 1, none⟩ = some (.int .i64 20000) := by rw [hW, hg7]; exact World.cell?_alloc_new _ _ _ _
  have BW : Below w.heap.size w W := by rw [hW]; exact B7.out.alloc B7.out.size _
  have SW : IsKnots W sa 2 kC := by rw [hW]; exact S7.out.more _
  rw [← hW, ← hg7, ← hWs]
  have B0 : ∀ o, Below w.heap.size w (W.alloc o) := fun o => BW.alloc BW.size o
  refine (aw_same _ _ _ _ _ (SW.more _) (lit_C W)).mono ?_
  rintro e w8 ⟨rfl, hb⟩
  have hlt : g7 < (W.alloc (Obj.cells #[.int .i64 10000, .int .i64 20000, .int .i64 30000, .int .i64 10000] 50)).heap.size := by simp [hWs]; omega
  have n0 : w8.cell? ⟨g7, 0, none⟩ = some (.int .i64 15000) := (hb.cell (p := ⟨g7, 0, none⟩) hlt).trans ((World.cell?_alloc_lt W _ _ (by show g7 < _; omega)).trans h0)
  have n1 : w8.cell? ⟨g7, 1, none⟩ = some (.int .i64 20000) := (hb.cell (p := ⟨g7, 1, none⟩) hlt).trans ((World.cell?_alloc_lt W _ _ (by show g7 < _; omega)).trans h1)
  have B8 := Lib.hid ((B0 _).trans (hb.mono (B0 _).size))
  obtain ⟨gS, hgS⟩ : ∃ gS, gS = W.heap.size := ⟨_, rfl⟩
  rw [← hgS]
  clear hb B0 hlt h0 h1 BW SW hWs hW hg7 hgS
  go_wp2_with fail
  go_ret
  exact ⟨rfl, B8.out⟩
end Go.Proofs.Ythghcppdfeeloaa
