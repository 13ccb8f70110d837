/- Contracts of Error, Proportional, Check and isPossible of package pid. -/
import Derived.Test.YtepmeacdacnhmaaPb
import Derived.Test.YtepmeacdacnhmaaRo
namespace Go.Proofs.Ytepmeacdacnhmaa
open Go.RowKit

def errI (rv : Bool) (set now : Int) : Int := if rv = true then subI now set else subI set now
def propI (kp : Int) (rv : Bool) (set now : Int) : Int := mulDivI kp (errI rv set now) 1000
def setB (kp ti lo hi : Int) : Bool := fromB kp 0 1000000000000 && fromB ti 0 86400 && numB lo && numB hi && decide (lo ≤ hi)
def posB (sm rs : Int) : Bool := fromB sm (-2000000000000) 2000000000000 && fromB rs (-86400) 86400
abbrev S5 (w : World) (g : Nat) (kp ti lo hi : Int) (rv : Bool) (w' : World) : Prop := w'.cell? ⟨g, 0, none⟩ = some (.int .i64 kp) ∧ w'.cell? ⟨g, 1, none⟩ = some (.int .i64 ti) ∧ w'.cell? ⟨g, 2, none⟩ = some (.int .i64 lo) ∧ w'.cell? ⟨g, 3, none⟩ = some (.int .i64 hi) ∧ w'.cell? ⟨g, 4, none⟩ = some (.bool rv) ∧ Below w.heap.size w w'
theorem s5_keep {w : World} {g : Nat} {kp ti lo hi : Int} {rv : Bool} {w1 w2 : World} (hb : Below w1.heap.size w1 w2) (s : S5 w g kp ti lo hi rv w1) : S5 w g kp ti lo hi rv w2 := by
  obtain ⟨s0, s1, s2, s3, s4, B⟩ := s
  have hg : g < w1.heap.size := World.block_lt_of_cell? _ _ s0
  exact ⟨(hb.cell (p := ⟨g, 0, none⟩) hg).trans s0, (hb.cell (p := ⟨g, 1, none⟩) hg).trans s1, (hb.cell (p := ⟨g, 2, none⟩) hg).trans s2, (hb.cell (p := ⟨g, 3, none⟩) hg).trans s3, (hb.cell (p := ⟨g, 4, none⟩) hg).trans s4, B.trans (hb.mono B.size)⟩
theorem s5_drew {w : World} {g : Nat} {kp ti lo hi : Int} {rv : Bool} {w1 : World} (s : S5 w g kp ti lo hi rv w1) : S5 w g kp ti lo hi rv w1.drew := s5_keep (Below.refl _ _).drew s
abbrev S8 (w : World) (g h : Nat) (kp ti lo hi : Int) (rv rd : Bool) (sm rs : Int) (w' : World) : Prop := w'.cell? ⟨g, 0, none⟩ = some (.int .i64 kp) ∧ w'.cell? ⟨g, 1, none⟩ = some (.int .i64 ti) ∧ w'.cell? ⟨g, 2, none⟩ = some (.int .i64 lo) ∧ w'.cell? ⟨g, 3, none⟩ = some (.int .i64 hi) ∧ w'.cell? ⟨g, 4, none⟩ = some (.bool rv) ∧ w'.cell? ⟨h, 0, none⟩ = some (.bool rd) ∧ w'.cell? ⟨h, 1, none⟩ = some (.int .i64 sm) ∧ w'.cell? ⟨h, 2, none⟩ = some (.int .i64 rs) ∧ Below w.heap.size w w'
theorem s8_keep {w : World} {g h : Nat} {kp ti lo hi : Int} {rv rd : Bool} {sm rs : Int} {w1 w2 : World} (hb : Below w1.heap.size w1 w2) (s : S8 w g h kp ti lo hi rv rd sm rs w1) : S8 w g h kp ti lo hi rv rd sm rs w2 := by
  obtain ⟨s0, s1, s2, s3, s4, t0, t1, t2, B⟩ := s
  have hg : g < w1.heap.size := World.block_lt_of_cell? _ _ s0
  have hh : h < w1.heap.size := World.block_lt_of_cell? _ _ t0
  exact ⟨(hb.cell (p := ⟨g, 0, none⟩) hg).trans s0, (hb.cell (p := ⟨g, 1, none⟩) hg).trans s1, (hb.cell (p := ⟨g, 2, none⟩) hg).trans s2, (hb.cell (p := ⟨g, 3, none⟩) hg).trans s3, (hb.cell (p := ⟨g, 4, none⟩) hg).trans s4, (hb.cell (p := ⟨h, 0, none⟩) hh).trans t0, (hb.cell (p := ⟨h, 1, none⟩) hh).trans t1, (hb.cell (p := ⟨h, 2, none⟩) hh).trans t2, B.trans (hb.mono B.size)⟩
theorem s8_drew {w : World} {g h : Nat} {kp ti lo hi : Int} {rv rd : Bool} {sm rs : Int} {w1 : World} (s : S8 w g h kp ti lo hi rv rd sm rs w1) : S8 w g h kp ti lo hi rv rd sm rs w1.drew := s8_keep (Below.refl _ _).drew s

theorem error_any (kp ti lo hi : Int) (rv : Bool) (set now : Int) (w : World) : Calls Try.prog 18 #[.agg #[.int .i64 kp, .int .i64 ti, .int .i64 lo, .int .i64 hi, .bool rv], .int .i64 set, .int .i64 now] w fun e w' => e = .returned (.int .i64 (errI rv set now)) ∧ Below w.heap.size w w' := by
  cases rv
  all_goals
    go_enter Try.func18, Try.ntmps18
    go_wp2_with fail
    refine (sub_any _ _ _).mono ?_
    rintro e w1 ⟨rfl, hb⟩
    go_wp2_with fail
    go_ret
    exact ⟨rfl, ((Below.refl _ _).alloc (Nat.le_refl _) _).trans (hb.mono (by rw [World.size_alloc]; omega))⟩
set_option maxHeartbeats 1000000 in
theorem prop_any (kp ti lo hi : Int) (rv : Bool) (set now : Int) (w : World) : Calls Try.prog 8 #[.agg #[.int .i64 kp, .int .i64 ti, .int .i64 lo, .int .i64 hi, .bool rv], .int .i64 set, .int .i64 now] w fun e w' => e = .returned (.int .i64 (propI kp rv set now)) ∧ Below w.heap.size w w' := by
  obtain ⟨W, g, hW, hg, RG, B, sz⟩ := box1 w #[.int .i64 kp, .int .i64 ti, .int .i64 lo, .int .i64 hi, .bool rv] 26
  obtain ⟨E, hE⟩ : ∃ E, E = errI rv set now := ⟨_, rfl⟩
  obtain ⟨Z, hZ⟩ : ∃ Z, Z = propI kp rv set now := ⟨_, rfl⟩
  have hc := fun w => error_any kp ti lo hi rv set now w
  rw [← hE] at hc
  have HC := Lib.hid hc
  have HM := Lib.hid (show ∀ w, Calls Try.prog 17 #[.int .i64 kp, .int .i64 E] w fun e w' => e = .returned (.int .i64 Z) ∧ Below w.heap.size w w' from fun w => by rw [hZ, hE]; exact mul_any _ _ w)
  rw [← hZ]
  clear hc hE hZ
  go_enter Try.func8, Try.ntmps8
  go_wp2_with fail
  rw [← hW]
  try rw [← hg]
  clear hW hg sz
  have s0 := RG.c 0 _ rfl
  have s1 := RG.c 1 _ rfl
  have s2 := RG.c 2 _ rfl
  have s3 := RG.c 3 _ rfl
  have s4 := RG.c 4 _ rfl
  have HS : S5 w g kp ti lo hi rv W := ⟨s0, s1, s2, s3, s4, B⟩
  have HD := Lib.hid HS
  have HDD := Lib.hid (s5_drew HS)
  clear HS RG B
  go_region_held3 (fun w' => w'.cell? ⟨g, 0, none⟩ = some (.int .i64 kp) ∧ w'.cell? ⟨g, 1, none⟩ = some (.int .i64 ti) ∧ w'.cell? ⟨g, 2, none⟩ = some (.int .i64 lo) ∧ w'.cell? ⟨g, 3, none⟩ = some (.int .i64 hi) ∧ w'.cell? ⟨g, 4, none⟩ = some (.bool rv) ∧ Below w.heap.size w w')
    (first | (with_reducible exact HD.out) | (with_reducible exact HDD.out) | (with_reducible exact s5_keep hb2 (by assumption)) | (with_reducible exact s5_drew (by assumption)) | go_keep)
    (first | (go_at_call 18; refine (HC.out _).mono ?_; rintro e x1 ⟨rfl, hb2⟩; have HS1 : Hid (S5 w g kp ti lo hi rv x1) := s5_keep hb2 (by assumption)) | (go_at_call 17; refine (HM.out _).mono ?_; rintro e x2 ⟨rfl, hb2⟩; have HS2 : Hid (S5 w g kp ti lo hi rv x2) := s5_keep hb2 (by assumption)))
  all_goals
    go_wp2_with fail
    go_ret
    exact ⟨rfl, HS2.out.2.2.2.2.2⟩
set_option maxHeartbeats 1000000 in
theorem check_any (kp ti lo hi : Int) (rv : Bool) (w : World) : Calls Try.prog 19 #[.agg #[.int .i64 kp, .int .i64 ti, .int .i64 lo, .int .i64 hi, .bool rv]] w fun e w' => e = .returned (.int .i64 (if setB kp ti lo hi = true then 0 else 1)) ∧ Below w.heap.size w w' := by
  obtain ⟨W, g, hW, hg, RG, B, sz⟩ := box1 w #[.int .i64 kp, .int .i64 ti, .int .i64 lo, .int .i64 hi, .bool rv] 26
  have HB := Lib.hid B
  have ha := fun w => isFrom_any kp 0 1000000000000 w
  have hb := fun w => isFrom_any ti 0 86400 w
  have hc := fun w => isNumber_any lo w
  have hd := fun w => isNumber_any hi w
  have hr : setB kp ti lo hi = (fromB kp 0 1000000000000 && fromB ti 0 86400 && numB lo && numB hi && decide (lo ≤ hi)) := rfl
  rw [hr]
  obtain ⟨A, hA⟩ : ∃ A, A = fromB kp 0 1000000000000 := ⟨_, rfl⟩
  obtain ⟨B1, hB1⟩ : ∃ B1, B1 = fromB ti 0 86400 := ⟨_, rfl⟩
  obtain ⟨C, hC⟩ : ∃ C, C = numB lo := ⟨_, rfl⟩
  obtain ⟨D, hD⟩ : ∃ D, D = numB hi := ⟨_, rfl⟩
  rw [← hA] at ha ⊢
  rw [← hB1] at hb ⊢
  rw [← hC] at hc ⊢
  rw [← hD] at hd ⊢
  clear hr hA hB1 hC hD
  have KA := Lib.hid ha
  have KB := Lib.hid hb
  have KC := Lib.hid hc
  have KD := Lib.hid hd
  clear ha hb hc hd B
  by_cases hl : lo ≤ hi
  all_goals
    go_enter Try.func19, Try.ntmps19
    go_wp2_with fail
    rw [← hW]
    try rw [← hg]
    have s0 := RG.c 0 _ rfl
    have s1 := RG.c 1 _ rfl
    have s2 := RG.c 2 _ rfl
    have s3 := RG.c 3 _ rfl
    have s4 := RG.c 4 _ rfl
    have sf := RG.fz
    refine (KA.out _).mono ?_
    rintro e w' ⟨rfl, rfl⟩
    cases A
    · go_wp2_with fail
      go_ret
      exact ⟨rfl, by (try rw [← hW]); exact HB.out⟩
    · go_wp2_with fail
      refine (KB.out _).mono ?_
      rintro e w' ⟨rfl, rfl⟩
      cases B1
      · go_wp2_with fail
        go_ret
        exact ⟨rfl, by (try rw [← hW]); exact HB.out⟩
      · go_wp2_with fail
        refine (KC.out _).mono ?_
        rintro e w' ⟨rfl, rfl⟩
        cases C
        · go_wp2_with fail
          go_ret
          exact ⟨rfl, by (try rw [← hW]); exact HB.out⟩
        · go_wp2_with fail
          refine (KD.out _).mono ?_
          rintro e w' ⟨rfl, rfl⟩
          cases D
          · go_wp2_with fail
            go_ret
            exact ⟨rfl, by (try rw [← hW]); exact HB.out⟩
          · go_wp2_with fail
            all_goals
              first
                | (exfalso; omega)
                | (go_ret
                   exact ⟨by (first | rfl | (rw [if_pos (by simp [hl])]; done) | (rw [if_neg (by simp; omega)])), by (try rw [← hW]); exact HB.out⟩)
theorem possible_any (rd : Bool) (sm rs : Int) (w : World) : Calls Try.prog 20 #[.agg #[.bool rd, .int .i64 sm, .int .i64 rs]] w fun e w' => e = .returned (.bool (posB sm rs)) ∧ Below w.heap.size w w' := by
  obtain ⟨W, g, hW, hg, RG, B, sz⟩ := box1 w #[.bool rd, .int .i64 sm, .int .i64 rs] 28
  have HB := Lib.hid B
  have ha := fun w => isFrom_any sm (-2000000000000) 2000000000000 w
  have hb := fun w => isFrom_any rs (-86400) 86400 w
  have hr : posB sm rs = (fromB sm (-2000000000000) 2000000000000 && fromB rs (-86400) 86400) := rfl
  rw [hr]
  obtain ⟨A, hA⟩ : ∃ A, A = fromB sm (-2000000000000) 2000000000000 := ⟨_, rfl⟩
  obtain ⟨B1, hB1⟩ : ∃ B1, B1 = fromB rs (-86400) 86400 := ⟨_, rfl⟩
  rw [← hA] at ha ⊢
  rw [← hB1] at hb ⊢
  clear hr hA hB1
  have KA := Lib.hid ha
  have KB := Lib.hid hb
  clear ha hb B
  go_enter Try.func20, Try.ntmps20
  go_wp2_with fail
  rw [← hW]
  try rw [← hg]
  have s0 := RG.c 0 _ rfl
  have s1 := RG.c 1 _ rfl
  have s2 := RG.c 2 _ rfl
  refine (KA.out _).mono ?_
  rintro e w' ⟨rfl, rfl⟩
  cases A
  · go_wp2_with fail
    go_ret
    exact ⟨rfl, by (try rw [← hW]); exact HB.out⟩
  · go_wp2_with fail
    refine (KB.out _).mono ?_
    rintro e w' ⟨rfl, rfl⟩
    cases B1
    all_goals
      go_wp2_with fail
      go_ret
      exact ⟨rfl, by (try rw [← hW]); exact HB.out⟩
end Go.Proofs.Ytepmeacdacnhmaa
