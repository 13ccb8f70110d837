/- Contracts of the methods of a relay. -/
import Derived.Test.YtmhfkdnblemfdaaDoorBl
namespace Go.Proofs.YtmhfkdnblemfdaaDoor
open Go.RowKit Go.Shelf

theorem grown_refl (w : World) (o : Option Nat) : w.grownBy w o := ⟨rfl, rfl, rfl, Nat.le_refl _, fun _ _ _ => rfl⟩
theorem grown_trans {w w1 w2 : World} {o : Option Nat} (h : w.grownBy w1 o) (k : w1.grownBy w2 o) : w.grownBy w2 o :=
  ⟨k.os.trans h.os, k.tape.trans h.tape, k.output.trans h.output, Nat.le_trans h.size k.size, fun q hq hne => (k.block q (Nat.lt_of_lt_of_le hq h.size) hne).trans (h.block q hq hne)⟩
theorem bit_any (c : Bool) (w : World) : Calls Tryd.prog 59 #[.bool c] w fun e w' => e = .returned (.int .i64 (if c = true then 1 else 0)) ∧ w = w' := by
  cases c
  · go_enter Tryd.func59, Tryd.ntmps59
    go_wp2_with fail
    go_ret
    exact ⟨rfl, rfl⟩
  · go_enter Tryd.func59, Tryd.ntmps59
    go_wp2_with fail
    go_ret
    exact ⟨rfl, rfl⟩
/-- the relay's block: its descriptor and parameters as they are, its state in sb -/
abbrev RelAt (w : World) (rb sb n : Nat) (v0 v1 v2 v3 v4 v5 v6 : Value) : Prop := RowAt w rb [v0, v1, v2, v3, v4, v5, v6, .slice (some ⟨sb, 0, none⟩) n n]
def edgeN (a x : Int) : Int := if a = 1 ∧ x = 0 then 1 else 0
set_option maxHeartbeats 2000000 in
theorem edge_any (rb sb n : Nat) (v0 v1 v2 v3 v4 v5 v6 : Value) (a x : Int) (r : List Value) (hn : 0 < n) (hne : rb ≠ sb) (w : World) (hr : RelAt w rb sb n v0 v1 v2 v3 v4 v5 v6) (hs : RowAt w sb (.int .i64 x :: r)) :
    Calls Tryd.prog 45 #[.pointer (some ⟨rb, 0, none⟩), .int .i64 a] w fun e w' => e = .returned (.int .i64 (edgeN a x)) ∧ RowAt w' sb (.int .i64 a :: r) ∧ w.grownBy w' (some sb) := by
  have r7 := hr.c 7 _ rfl
  have rz := hr.fz
  have s0 := hs.c 0 _ rfl
  have sz := hs.fz
  have h0 : (0 : Int) < (n : Int) := by omega
  have hR := Lib.hid ((row_at hr (fun e => hne e.symm) 0 (.int .i64 a)).c 7 _ rfl)
  have HS := Lib.hid (row_set hs 0 (by simp) (.int .i64 a))
  have HG := Lib.hid (grown_cell w sb 0 (.int .i64 a))
  clear hr hs
  by_cases ha : a = 1
  · subst ha
    by_cases hx : x = 0
    · subst hx
      have HE := Lib.hid (show edgeN 1 0 = 1 from rfl)
      go_enter Tryd.func45, Tryd.ntmps45
      go_wp2_with fail
      refine (bit_any _ _).mono ?_
      rintro e w1 ⟨rfl, rfl⟩
      go_wp2_with fail
      go_ret
      exact ⟨rfl, HS.out, HG.out⟩
    · have HE := Lib.hid (show edgeN 1 x = 0 by simp [edgeN, hx])
      have hb : (x == 0) = false := by rw [beq_eq_false_iff_ne]; exact hx
      clear hx
      go_enter Tryd.func45, Tryd.ntmps45
      go_wp2_with fail
      refine (bit_any _ _).mono ?_
      rintro e w1 ⟨rfl, rfl⟩
      go_wp2_with fail
      go_ret
      exact ⟨by rw [HE.out]; rfl, HS.out, HG.out⟩
  · have HE := Lib.hid (show edgeN a x = 0 by simp [edgeN, ha])
    have hb : (a == 1) = false := by rw [beq_eq_false_iff_ne]; exact ha
    clear ha
    go_enter Tryd.func45, Tryd.ntmps45
    go_wp2_with fail
    refine (bit_any _ _).mono ?_
    rintro e w1 ⟨rfl, rfl⟩
    go_wp2_with fail
    go_ret
    exact ⟨by rw [HE.out]; rfl, HS.out, HG.out⟩
def latchN (a b x : Int) : Int := if b = 1 then 0 else if a = 1 then 1 else x
set_option maxHeartbeats 2000000 in
theorem latch_any (rb sb n : Nat) (v0 v1 v2 v3 v4 v5 v6 : Value) (a b x : Int) (r : List Value) (hn : 0 < n) (w : World) (hr : RelAt w rb sb n v0 v1 v2 v3 v4 v5 v6) (hs : RowAt w sb (.int .i64 x :: r)) :
    Calls Tryd.prog 47 #[.pointer (some ⟨rb, 0, none⟩), .int .i64 a, .int .i64 b] w fun e w' => e = .returned (.int .i64 (latchN a b x)) ∧ RowAt w' sb (.int .i64 (latchN a b x) :: r) ∧ w.grownBy w' (some sb) := by
  have r7 := hr.c 7 _ rfl
  have rz := hr.fz
  have s0 := hs.c 0 _ rfl
  have sz := hs.fz
  have h0 : (0 : Int) < (n : Int) := by omega
  have HR := Lib.hid hr
  have HX := Lib.hid hs
  by_cases hb : b = 1
  · subst hb
    have HS := Lib.hid (row_set hs 0 (by simp) (.int .i64 0))
    have HG := Lib.hid (grown_cell w sb 0 (.int .i64 0))
    clear hr hs
    go_enter Tryd.func47, Tryd.ntmps47
    go_wp2_with fail
    go_ret
    exact ⟨rfl, HS.out, HG.out⟩
  · have hbb : (b == 1) = false := by rw [beq_eq_false_iff_ne]; exact hb
    by_cases ha : a = 1
    · subst ha
      have HE := Lib.hid (show latchN 1 b x = 1 by simp [latchN, hb])
      have HS := Lib.hid (row_set hs 0 (by simp) (.int .i64 1))
      have HG := Lib.hid (grown_cell w sb 0 (.int .i64 1))
      clear hr hs hb
      go_enter Tryd.func47, Tryd.ntmps47
      go_wp2_with fail
      go_ret
      exact ⟨by rw [HE.out]; rfl, by rw [HE.out]; exact HS.out, HG.out⟩
    · have haa : (a == 1) = false := by rw [beq_eq_false_iff_ne]; exact ha
      have HE := Lib.hid (show latchN a b x = x by simp [latchN, hb, ha])
      clear hr hs hb ha
      go_enter Tryd.func47, Tryd.ntmps47
      go_wp2_with fail
      go_ret
      exact ⟨by rw [HE.out]; rfl, by rw [HE.out]; exact HX.out, grown_refl _ _⟩
def hystN (lo hi a x : Int) : Int := if hi < a then 1 else if a < lo then 0 else x
set_option maxHeartbeats 2000000 in
theorem hyst_any (rb sb n pb po pc : Nat) (v0 v1 v2 v3 v4 v5 : Value) (lo hi a x : Int) (r : List Value) (hn : 0 < n) (w : World) (hr : RelAt w rb sb n v0 v1 v2 v3 v4 v5 (.slice (some ⟨pb, po, none⟩) 2 pc)) (p0 : w.cell? ⟨pb, po, none⟩ = some (.int .i64 hi)) (p1 : w.cell? ⟨pb, po + 1, none⟩ = some (.int .i64 lo)) (hs : RowAt w sb (.int .i64 x :: r)) :
    Calls Tryd.prog 46 #[.pointer (some ⟨rb, 0, none⟩), .int .i64 a] w fun e w' => e = .returned (.int .i64 (hystN lo hi a x)) ∧ RowAt w' sb (.int .i64 (hystN lo hi a x) :: r) ∧ w.grownBy w' (some sb) := by
  have r6 := hr.c 6 _ rfl
  have h0 : (0 : Int) < (n : Int) := by omega
  have HR := Lib.hid hr
  have HX := Lib.hid hs
  clear hr hs
  go_enter Tryd.func46, Tryd.ntmps46
  go_upto_region 1 with fail
  go_quiet ((fail))
  (try simp only [Exit.then])
  have KR := Lib.hid (HR.out.keep (below_drewN _ _ nq))
  have KX := Lib.hid (HX.out.keep (below_drewN _ _ nq))
  have HD := Lib.hid (show w.grownBy (w.drewN nq) (some sb) from ⟨rfl, rfl, rfl, Nat.le_refl _, fun _ _ _ => rfl⟩)
  have r7 := KR.out.c 7 _ rfl
  have rz := KR.out.fz
  have s0 := KX.out.c 0 _ rfl
  have sz := KX.out.fz
  clear p0 p1 r6
  by_cases ha : hi < a
  · have HE := Lib.hid (show hystN lo hi a x = 1 by simp [hystN, ha])
    have HS := Lib.hid (row_set KX.out 0 (by simp) (.int .i64 1))
    have HG := Lib.hid (grown_trans HD.out (grown_cell (w.drewN nq) sb 0 (.int .i64 1)))
    go_wp2_with fail
    go_ret
    exact ⟨by rw [HE.out]; rfl, by rw [HE.out]; exact HS.out, HG.out⟩
  · by_cases hb : a < lo
    · have HE := Lib.hid (show hystN lo hi a x = 0 by simp [hystN, ha, hb])
      have HS := Lib.hid (row_set KX.out 0 (by simp) (.int .i64 0))
      have HG := Lib.hid (grown_trans HD.out (grown_cell (w.drewN nq) sb 0 (.int .i64 0)))
      go_wp2_with fail
      go_ret
      exact ⟨by rw [HE.out]; rfl, by rw [HE.out]; exact HS.out, HG.out⟩
    · have HE := Lib.hid (show hystN lo hi a x = x by simp [hystN, ha, hb])
      go_wp2_with fail
      go_ret
      exact ⟨by rw [HE.out]; rfl, by rw [HE.out]; exact KX.out, HD.out⟩
end Go.Proofs.YtmhfkdnblemfdaaDoor
